/- Plain mathematics: an order of the crossings, its inverse, the lists of the renumbered diagram. -/
import Derived.Test.YtcllnoigppkjiaaManyPlain
namespace Go.Proofs.Ytcllnoigppkjiaa

def ordN (o : List Int) : Nat → Nat := fun i => (o.getD i 0).toNat
/-- The first k numbers lie in the range and differ. -/
structure OrdK (o : List Int) (n k : Nat) : Prop where
  rg : ∀ i, i < k → 0 ≤ o.getD i 0 ∧ o.getD i 0 < n
  ne : ∀ i j, i < j → j < k → o.getD i 0 ≠ o.getD j 0
def IsOrd (o : List Int) (n : Nat) : Prop := o.length = n ∧ OrdK o n n
theorem OrdK.zero (o : List Int) (n : Nat) : OrdK o n 0 := ⟨fun i hi => absurd hi (by omega), fun i j _ hj => absurd hj (by omega)⟩
theorem OrdK.succ {o : List Int} {n k : Nat} (h : OrdK o n k) (h1 : 0 ≤ o.getD k 0) (h2 : o.getD k 0 < n) (h3 : ∀ i, i < k → o.getD i 0 ≠ o.getD k 0) : OrdK o n (k + 1) :=
  ⟨fun i hi => by
    by_cases e : i = k
    · subst e; exact ⟨h1, h2⟩
    · exact h.rg i (by omega), fun i j hij hj => by
    by_cases e : j = k
    · subst e; exact h3 i hij
    · exact h.ne i j hij (by omega)⟩
theorem ordN_cast {o : List Int} {n k i : Nat} (h : OrdK o n k) (hi : i < k) : (ordN o i : Int) = o.getD i 0 ∧ ordN o i < n := by
  have := h.rg i hi
  unfold ordN; omega
theorem IsOrd.perm {o : List Int} {n : Nat} (h : IsOrd o n) : Perm (ordN o) n :=
  ⟨fun i hi => (ordN_cast h.2 hi).2, fun i j hi hj e => by
    have h1 := (ordN_cast h.2 hi).1
    have h2 := (ordN_cast h.2 hj).1
    rw [e] at h1
    rcases Nat.lt_trichotomy i j with k | k | k
    · exact absurd (h1.symm.trans h2) (h.2.ne i j k hj)
    · exact k
    · exact absurd (h2.symm.trans h1) (h.2.ne j i k hi)⟩

/-- The place of c among the first k. -/
def plcK (o : List Int) : Nat → Nat → Int
  | 0 => fun _ => -1
  | k + 1 => fun c => if c = ordN o k then (k : Int) else plcK o k c
theorem plcK_in {o : List Int} {n k i : Nat} (h : OrdK o n k) (hi : i < k) : plcK o k (ordN o i) = i := by
  induction k with
  | zero => omega
  | succ k ih =>
    show (if ordN o i = ordN o k then (k : Int) else plcK o k (ordN o i)) = i
    by_cases e : i = k
    · subst e; simp
    · have h1 := (ordN_cast h (i := i) (by omega)).1
      have h2 := (ordN_cast h (i := k) (by omega)).1
      have h3 := h.ne i k (by omega) (by omega)
      rw [if_neg (by omega)]
      exact ih ⟨fun j hj => h.rg j (by omega), fun a b hab hb => h.ne a b hab (by omega)⟩ (by omega)
theorem plcK_out {o : List Int} {k c : Nat} (h : ∀ i, i < k → ordN o i ≠ c) : plcK o k c = -1 := by
  induction k with
  | zero => rfl
  | succ k ih =>
    show (if c = ordN o k then (k : Int) else plcK o k c) = -1
    rw [if_neg fun e => h k (by omega) e.symm]
    exact ih fun i hi => h i (by omega)
theorem plcK_cases (o : List Int) (k c : Nat) : plcK o k c = -1 ∧ (∀ i, i < k → ordN o i ≠ c) ∨ ∃ i, i < k ∧ plcK o k c = i ∧ ordN o i = c := by
  induction k with
  | zero => exact .inl ⟨rfl, fun i hi => absurd hi (by omega)⟩
  | succ k ih =>
    by_cases e : c = ordN o k
    · refine .inr ⟨k, by omega, ?_, e.symm⟩
      show (if c = ordN o k then (k : Int) else plcK o k c) = k
      rw [if_pos e]
    · have e2 : plcK o (k + 1) c = plcK o k c := by
        show (if c = ordN o k then (k : Int) else plcK o k c) = plcK o k c
        rw [if_neg e]
      rw [e2]
      rcases ih with ⟨h1, h2⟩ | ⟨i, h1, h2, h3⟩
      · refine .inl ⟨h1, fun i hi => ?_⟩
        by_cases ei : i = k
        · subst ei; exact fun q => e q.symm
        · exact h2 i (by omega)
      · exact .inr ⟨i, by omega, h2, h3⟩

/-- The inverse. -/
def invN (o : List Int) (n c : Nat) : Nat := (plcK o n c).toNat
theorem invN_ord {o : List Int} {n i : Nat} (h : IsOrd o n) (hi : i < n) : invN o n (ordN o i) = i := by
  unfold invN; rw [plcK_in h.2 hi]; simp
theorem ord_invN {o : List Int} {n c : Nat} (h : IsOrd o n) (hc : c < n) : ordN o (invN o n c) = c ∧ invN o n c < n := by
  obtain ⟨i, hi, e⟩ := h.perm.onto hc
  rw [← e, invN_ord h hi]; exact ⟨rfl, hi⟩
theorem invN_cast {o : List Int} {n c : Nat} (h : IsOrd o n) (hc : c < n) : (invN o n c : Int) = plcK o n c := by
  obtain ⟨i, hi, e⟩ := h.perm.onto hc
  rw [← e, invN_ord h hi, plcK_in h.2 hi]
theorem invN_perm {o : List Int} {n : Nat} (h : IsOrd o n) : Perm (invN o n) n :=
  ⟨fun c hc => (ord_invN h hc).2, fun c d hc hd e => by rw [← (ord_invN h hc).1, ← (ord_invN h hd).1, e]⟩

/-- A list of n numbers that holds each below n is an order. -/
theorem isOrd_of_all {o : List Int} {n : Nat} (hl : o.length = n) (h : ∀ i, i < n → (i : Int) ∈ o) : IsOrd o n := by
  have hex : ∀ i, i < n → ∃ j, j < n ∧ o.getD j 0 = i := fun i hi => by
    obtain ⟨j, hj, e⟩ := List.getElem_of_mem (h i hi)
    exact ⟨j, by omega, by simp [List.getD, hj, e]⟩
  obtain ⟨t, ht⟩ : ∃ t : Nat → Nat, ∀ i, i < n → t i < n ∧ o.getD (t i) 0 = i := by
    refine ⟨fun i => if hi : i < n then (hex i hi).choose else 0, fun i hi => ?_⟩
    simp only [hi, dif_pos]
    exact (hex i hi).choose_spec
  have q : Perm t n := ⟨fun i hi => (ht i hi).1, fun i j hi hj e => by
    have h1 := (ht i hi).2
    have h2 := (ht j hj).2
    rw [e] at h1; omega⟩
  refine ⟨hl, ⟨fun j hj => ?_, fun i j hij hj e => ?_⟩⟩
  · obtain ⟨i, hi, e⟩ := q.onto hj
    have := (ht i hi).2
    rw [e] at this; omega
  · obtain ⟨a, ha, ea⟩ := q.onto (show i < n by omega)
    obtain ⟨b, hb, eb⟩ := q.onto hj
    have h1 := (ht a ha).2
    have h2 := (ht b hb).2
    rw [ea] at h1; rw [eb] at h2
    have : a = b := by omega
    rw [this] at ea; omega
theorem IsOrd.all {o : List Int} {n : Nat} (h : IsOrd o n) {i : Nat} (hi : i < n) : (i : Int) ∈ o := by
  obtain ⟨j, hj, e⟩ := h.perm.onto hi
  have h1 := (ordN_cast h.2 hj).1
  rw [e] at h1
  have hjl : j < o.length := by rw [h.1]; exact hj
  rw [h1]; exact getD_mem_int hjl

/-- The half-edge that the new half-edge x was. -/
def wasH (o : List Int) (x : Nat) : Nat := 4 * ordN o (x / 4) + x % 4
/-- The new half-edge that x becomes. -/
def newH (o : List Int) (n x : Nat) : Nat := 4 * invN o n (x / 4) + x % 4
def renS (s o : List Int) (n : Nat) : List Int := (List.range n).map fun i => s.getD (ordN o i) 0
def renM (m : Nat → Nat) (o : List Int) (n : Nat) : List Int := (List.range (4 * n)).map fun x => (newH o n (m (wasH o x)) : Int)
theorem renS_length (s o : List Int) (n : Nat) : (renS s o n).length = n := by simp [renS]
theorem renM_length (m : Nat → Nat) (o : List Int) (n : Nat) : (renM m o n).length = 4 * n := by simp [renM]
theorem renS_get {s o : List Int} {n i : Nat} (hi : i < n) : (renS s o n).getD i 0 = s.getD (ordN o i) 0 := by simp [renS, List.getD, hi]
theorem renM_get {m : Nat → Nat} {o : List Int} {n x : Nat} (hx : x < 4 * n) : (renM m o n).getD x 0 = (newH o n (m (wasH o x)) : Int) := by simp [renM, List.getD, hx]
theorem wasH_lt {o : List Int} {n x : Nat} (h : IsOrd o n) (hx : x < 4 * n) : wasH o x < 4 * n := by
  have := (ordN_cast h.2 (i := x / 4) (by omega)).2
  unfold wasH; omega
theorem newH_lt {o : List Int} {n x : Nat} (h : IsOrd o n) (hx : x < 4 * n) : newH o n x < 4 * n := by
  have := (ord_invN h (c := x / 4) (by omega)).2
  unfold newH; omega
theorem newH_was {o : List Int} {n x : Nat} (h : IsOrd o n) (hx : x < 4 * n) : newH o n (wasH o x) = x := by
  have h1 : wasH o x / 4 = ordN o (x / 4) := by unfold wasH; omega
  have h2 : wasH o x % 4 = x % 4 := by unfold wasH; omega
  unfold newH
  rw [h1, h2, invN_ord h (by omega)]; omega
theorem wasH_new {o : List Int} {n x : Nat} (h : IsOrd o n) (hx : x < 4 * n) : wasH o (newH o n x) = x := by
  have h1 : newH o n x / 4 = invN o n (x / 4) := by unfold newH; omega
  have h2 : newH o n x % 4 = x % 4 := by unfold newH; omega
  unfold wasH
  rw [h1, h2, (ord_invN h (c := x / 4) (by omega)).1]; omega
theorem newH_perm {o : List Int} {n : Nat} (h : IsOrd o n) : Perm (newH o n) (4 * n) :=
  ⟨fun x hx => newH_lt h hx, fun x y hx hy e => by rw [← wasH_new h hx, ← wasH_new h hy, e]⟩

end Go.Proofs.Ytcllnoigppkjiaa
