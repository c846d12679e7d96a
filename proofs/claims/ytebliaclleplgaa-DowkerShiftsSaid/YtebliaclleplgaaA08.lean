import Derived.Test.YtebliaclleplgaaA07
import Derived.Test.YtebliaclleplgaaA03
import Derived.Test.YtebliaclleplgaaA06
import Derived.Shelf.Bits.Mul64
import Derived.Ground.Names2Prog
import Derived.Test.YtebliaclleplgaaRows
import Derived.Test.YtebliaclleplgaaA02
import Derived.Laws.CopyOwn
import Derived.Deep.RegionLaw
/- Plain mathematics: an order of the crossings, its inverse, the lists of the renumbered diagram. -/
namespace Go.Proofs.Ytebliaclleplgaa

def ordN (o : List Int) : Nat → Nat := fun i => (o.getD i 0).toNat
/-- The first k numbers lie in the range and differ. -/
structure OrdK (o : List Int) (n k : Nat) : Prop where
  rg : ∀ i, i < k → 0 ≤ o.getD i 0 ∧ o.getD i 0 < n
  ne : ∀ i j, i < j → j < k → o.getD i 0 ≠ o.getD j 0
def IsOrd (o : List Int) (n : Nat) : Prop := o.length = n ∧ OrdK o n n
theorem OrdK.zero (o : List Int) (n : Nat) : OrdK o n 0 := ⟨fun i hi => absurd hi (by omega), fun i j _ hj => absurd hj (by omega)⟩
theorem OrdK.succ {o : List Int} {n k : Nat} (h : OrdK o n k) (h1 : 0 ≤ o.getD k 0) (h2 : o.getD k 0 < n) (h3 : ∀ i, i < k → o.getD i 0 ≠ o.getD k 0) : OrdK o n (k + 1) :=
  ⟨fun i hi => by
    by_cases e : i = k
    · subst e; exact ⟨h1, h2⟩
    · exact h.rg i (by omega), fun i j hij hj => by
    by_cases e : j = k
    · subst e; exact h3 i hij
    · exact h.ne i j hij (by omega)⟩
theorem ordN_cast {o : List Int} {n k i : Nat} (h : OrdK o n k) (hi : i < k) : (ordN o i : Int) = o.getD i 0 ∧ ordN o i < n := by
  have := h.rg i hi
  unfold ordN; omega
theorem IsOrd.perm {o : List Int} {n : Nat} (h : IsOrd o n) : Perm (ordN o) n :=
  ⟨fun i hi => (ordN_cast h.2 hi).2, fun i j hi hj e => by
    have h1 := (ordN_cast h.2 hi).1
    have h2 := (ordN_cast h.2 hj).1
    rw [e] at h1
    rcases Nat.lt_trichotomy i j with k | k | k
    · exact absurd (h1.symm.trans h2) (h.2.ne i j k hj)
    · exact k
    · exact absurd (h2.symm.trans h1) (h.2.ne j i k hi)⟩

/-- The place of c among the first k. -/
def plcK (o : List Int) : Nat → Nat → Int
  | 0 => fun _ => -1
  | k + 1 => fun c => if c = ordN o k then (k : Int) else plcK o k c
theorem plcK_in {o : List Int} {n k i : Nat} (h : OrdK o n k) (hi : i < k) : plcK o k (ordN o i) = i := by
  induction k with
  | zero => omega
  | succ k ih =>
    show (if ordN o i = ordN o k then (k : Int) else plcK o k (ordN o i)) = i
    by_cases e : i = k
    · subst e; simp
    · have h1 := (ordN_cast h (i := i) (by omega)).1
      have h2 := (ordN_cast h (i := k) (by omega)).1
      have h3 := h.ne i k (by omega) (by omega)
      rw [if_neg (by omega)]
      exact ih ⟨fun j hj => h.rg j (by omega), fun a b hab hb => h.ne a b hab (by omega)⟩ (by omega)
theorem plcK_out {o : List Int} {k c : Nat} (h : ∀ i, i < k → ordN o i ≠ c) : plcK o k c = -1 := by
  induction k with
  | zero => rfl
  | succ k ih =>
    show (if c = ordN o k then (k : Int) else plcK o k c) = -1
    rw [if_neg fun e => h k (by omega) e.symm]
    exact ih fun i hi => h i (by omega)
theorem plcK_cases (o : List Int) (k c : Nat) : plcK o k c = -1 ∧ (∀ i, i < k → ordN o i ≠ c) ∨ ∃ i, i < k ∧ plcK o k c = i ∧ ordN o i = c := by
  induction k with
  | zero => exact .inl ⟨rfl, fun i hi => absurd hi (by omega)⟩
  | succ k ih =>
    by_cases e : c = ordN o k
    · refine .inr ⟨k, by omega, ?_, e.symm⟩
      show (if c = ordN o k then (k : Int) else plcK o k c) = k
      rw [if_pos e]
    · have e2 : plcK o (k + 1) c = plcK o k c := by
        show (if c = ordN o k then (k : Int) else plcK o k c) = plcK o k c
        rw [if_neg e]
      rw [e2]
      rcases ih with ⟨h1, h2⟩ | ⟨i, h1, h2, h3⟩
      · refine .inl ⟨h1, fun i hi => ?_⟩
        by_cases ei : i = k
        · subst ei; exact fun q => e q.symm
        · exact h2 i (by omega)
      · exact .inr ⟨i, by omega, h2, h3⟩

/-- The inverse. -/
def invN (o : List Int) (n c : Nat) : Nat := (plcK o n c).toNat
theorem invN_ord {o : List Int} {n i : Nat} (h : IsOrd o n) (hi : i < n) : invN o n (ordN o i) = i := by
  unfold invN; rw [plcK_in h.2 hi]; simp
theorem ord_invN {o : List Int} {n c : Nat} (h : IsOrd o n) (hc : c < n) : ordN o (invN o n c) = c ∧ invN o n c < n := by
  obtain ⟨i, hi, e⟩ := h.perm.onto hc
  rw [← e, invN_ord h hi]; exact ⟨rfl, hi⟩
theorem invN_cast {o : List Int} {n c : Nat} (h : IsOrd o n) (hc : c < n) : (invN o n c : Int) = plcK o n c := by
  obtain ⟨i, hi, e⟩ := h.perm.onto hc
  rw [← e, invN_ord h hi, plcK_in h.2 hi]
theorem invN_perm {o : List Int} {n : Nat} (h : IsOrd o n) : Perm (invN o n) n :=
  ⟨fun c hc => (ord_invN h hc).2, fun c d hc hd e => by rw [← (ord_invN h hc).1, ← (ord_invN h hd).1, e]⟩

/-- A list of n numbers that holds each below n is an order. -/
theorem isOrd_of_all {o : List Int} {n : Nat} (hl : o.length = n) (h : ∀ i, i < n → (i : Int) ∈ o) : IsOrd o n := by
  have hex : ∀ i, i < n → ∃ j, j < n ∧ o.getD j 0 = i := fun i hi => by
    obtain ⟨j, hj, e⟩ := List.getElem_of_mem (h i hi)
    exact ⟨j, by omega, by simp [List.getD, hj, e]⟩
  obtain ⟨t, ht⟩ : ∃ t : Nat → Nat, ∀ i, i < n → t i < n ∧ o.getD (t i) 0 = i := by
    refine ⟨fun i => if hi : i < n then (hex i hi).choose else 0, fun i hi => ?_⟩
    simp only [hi, dif_pos]
    exact (hex i hi).choose_spec
  have q : Perm t n := ⟨fun i hi => (ht i hi).1, fun i j hi hj e => by
    have h1 := (ht i hi).2
    have h2 := (ht j hj).2
    rw [e] at h1; omega⟩
  refine ⟨hl, ⟨fun j hj => ?_, fun i j hij hj e => ?_⟩⟩
  · obtain ⟨i, hi, e⟩ := q.onto hj
    have := (ht i hi).2
    rw [e] at this; omega
  · obtain ⟨a, ha, ea⟩ := q.onto (show i < n by omega)
    obtain ⟨b, hb, eb⟩ := q.onto hj
    have h1 := (ht a ha).2
    have h2 := (ht b hb).2
    rw [ea] at h1; rw [eb] at h2
    have : a = b := by omega
    rw [this] at ea; omega
theorem IsOrd.all {o : List Int} {n : Nat} (h : IsOrd o n) {i : Nat} (hi : i < n) : (i : Int) ∈ o := by
  obtain ⟨j, hj, e⟩ := h.perm.onto hi
  have h1 := (ordN_cast h.2 hj).1
  rw [e] at h1
  have hjl : j < o.length := by rw [h.1]; exact hj
  rw [h1]; exact getD_mem_int hjl

/-- The half-edge that the new half-edge x was. -/
def wasH (o : List Int) (x : Nat) : Nat := 4 * ordN o (x / 4) + x % 4
/-- The new half-edge that x becomes. -/
def newH (o : List Int) (n x : Nat) : Nat := 4 * invN o n (x / 4) + x % 4
def renS (s o : List Int) (n : Nat) : List Int := (List.range n).map fun i => s.getD (ordN o i) 0
def renM (m : Nat → Nat) (o : List Int) (n : Nat) : List Int := (List.range (4 * n)).map fun x => (newH o n (m (wasH o x)) : Int)
theorem renS_length (s o : List Int) (n : Nat) : (renS s o n).length = n := by simp [renS]
theorem renM_length (m : Nat → Nat) (o : List Int) (n : Nat) : (renM m o n).length = 4 * n := by simp [renM]
theorem renS_get {s o : List Int} {n i : Nat} (hi : i < n) : (renS s o n).getD i 0 = s.getD (ordN o i) 0 := by simp [renS, List.getD, hi]
theorem renM_get {m : Nat → Nat} {o : List Int} {n x : Nat} (hx : x < 4 * n) : (renM m o n).getD x 0 = (newH o n (m (wasH o x)) : Int) := by simp [renM, List.getD, hx]
theorem wasH_lt {o : List Int} {n x : Nat} (h : IsOrd o n) (hx : x < 4 * n) : wasH o x < 4 * n := by
  have := (ordN_cast h.2 (i := x / 4) (by omega)).2
  unfold wasH; omega
theorem newH_lt {o : List Int} {n x : Nat} (h : IsOrd o n) (hx : x < 4 * n) : newH o n x < 4 * n := by
  have := (ord_invN h (c := x / 4) (by omega)).2
  unfold newH; omega
theorem newH_was {o : List Int} {n x : Nat} (h : IsOrd o n) (hx : x < 4 * n) : newH o n (wasH o x) = x := by
  have h1 : wasH o x / 4 = ordN o (x / 4) := by unfold wasH; omega
  have h2 : wasH o x % 4 = x % 4 := by unfold wasH; omega
  unfold newH
  rw [h1, h2, invN_ord h (by omega)]; omega
theorem wasH_new {o : List Int} {n x : Nat} (h : IsOrd o n) (hx : x < 4 * n) : wasH o (newH o n x) = x := by
  have h1 : newH o n x / 4 = invN o n (x / 4) := by unfold newH; omega
  have h2 : newH o n x % 4 = x % 4 := by unfold newH; omega
  unfold wasH
  rw [h1, h2, (ord_invN h (c := x / 4) (by omega)).1]; omega
theorem newH_perm {o : List Int} {n : Nat} (h : IsOrd o n) : Perm (newH o n) (4 * n) :=
  ⟨fun x hx => newH_lt h hx, fun x y hx hy e => by rw [← wasH_new h hx, ← wasH_new h hy, e]⟩

end Go.Proofs.Ytebliaclleplgaa

/- Plain mathematics: a renumbered diagram is drawn on spheres as the given one is. -/
namespace Go.Proofs.Ytebliaclleplgaa

theorem conn_conj {m m' T t : Nat → Nat} {N : Nat} (hT : ∀ x, x < N → T x < N ∧ m' (T x) = T (m x) ∧ T x / 4 = t (x / 4)) (hm : ∀ x, x < N → m x < N) {a b : Nat} (h : Conn m N a b) : Conn m' N (t a) (t b) := by
  induction h with
  | refl => exact .refl _
  | step x hx _ ih =>
    obtain ⟨h1, h2, h3⟩ := hT x hx
    have h4 := (hT (m x) (hm x hx)).2.2
    rw [← h3] at ih
    have := Conn.step (m := m') (T x) h1 ih
    rw [h2, h4] at this
    exact this
  | back x hx _ ih =>
    obtain ⟨h1, h2, h3⟩ := hT x hx
    have h4 := (hT (m x) (hm x hx)).2.2
    rw [← h4, ← h2] at ih
    have := Conn.back (m := m') (T x) h1 ih
    rw [h3] at this
    exact this
theorem IsLab.iff {m : Nat → Nat} {N n : Nat} {F : Nat → Nat} (h : IsLab m N n F) {a b : Nat} (ha : a < n) (hb : b < n) : F a = F b ↔ Conn m N a b :=
  ⟨fun e => by
    have h1 := (h.1 a ha).2
    rw [e] at h1
    exact h1.trans (h.1 b hb).2.symm, h.conn⟩
theorem sel_closed {f : Nat → Nat} {N : Nat} {p : Nat → Bool} (q : Perm f N) (c : ClosedN f N p) {h : Nat} (hh : h < N) : sel f N p h = (fst f N h && p h) := by
  rw [Bool.eq_iff_iff, Bool.and_eq_true, q.sel_iff p hh, q.fst_iff hh]
  constructor
  · rintro ⟨h1, h2⟩
    refine ⟨fun h' hlt o => h2 h' hlt ?_ o, h1⟩
    obtain ⟨i, e⟩ := q.orb_symm (by omega) o
    rw [← e]; exact c.it q hh h1 i
  · rintro ⟨h1, h2⟩
    exact ⟨h2, fun h' hlt _ o => h1 h' hlt o⟩
theorem cntF_reprs {f F : Nat → Nat} {N l : Nat} (q : Perm f N) (c : ClosedN f N (fun h => F (h / 4) == l)) : cntF F f N N l = (reprs f N (fun h => F (h / 4) == l)).length := by
  unfold cntF reprs
  rw [List.countP_eq_length_filter]
  congr 1
  exact (List.filter_congr fun x hx => by rw [sel_closed q c (by simpa using hx)]).symm

section
variable {o : List Int} {n : Nat} {m m' : Nat → Nat}
/-- The mates of the renumbered diagram. -/
structure Ren (o : List Int) (n : Nat) (m m' : Nat → Nat) : Prop where
  ord : IsOrd o n
  inv : Invol m (4 * n)
  eq : ∀ x, x < 4 * n → m' x = newH o n (m (wasH o x))
theorem Ren.at (r : Ren o n m m') {x : Nat} (hx : x < 4 * n) : m' (newH o n x) = newH o n (m x) := by rw [r.eq _ (newH_lt r.ord hx), wasH_new r.ord hx]
theorem Ren.inv' (r : Ren o n m m') : Invol m' (4 * n) :=
  ⟨fun x hx => by rw [r.eq x hx]; exact newH_lt r.ord (r.inv.lt _ (wasH_lt r.ord hx)), fun x hx => by
    have h1 := r.inv.lt _ (wasH_lt r.ord hx)
    rw [r.eq x hx, r.at h1, r.inv.inv _ (wasH_lt r.ord hx), newH_was r.ord hx]⟩
theorem newH_trn (s x : Nat) : newH o n (trn x s) = trn (newH o n x) s := by
  have h1 : trn x s / 4 = x / 4 := trn_div x s
  have h2 : trn x s % 4 = (x % 4 + s) % 4 := by unfold trn; omega
  have h3 : newH o n x % 4 = x % 4 := by unfold newH; omega
  unfold newH at *
  rw [h1, h2]
  unfold trn
  rw [h3]; omega
theorem Ren.step (r : Ren o n m m') (s : Nat) {x : Nat} (hx : x < 4 * n) : trn (m' (newH o n x)) s = newH o n (trn (m x) s) := by rw [r.at hx, newH_trn]
theorem Ren.lab (r : Ren o n m m') {a b : Nat} (ha : a < n) (hb : b < n) : ufLab m (4 * n) a = ufLab m (4 * n) b ↔ ufLab m' (4 * n) (invN o n a) = ufLab m' (4 * n) (invN o n b) := by
  have qa := (ord_invN r.ord ha)
  have qb := (ord_invN r.ord hb)
  rw [(ufLab_isLab m (4 * n) n).iff ha hb, (ufLab_isLab m' (4 * n) n).iff qa.2 qb.2]
  constructor
  · exact conn_conj (T := newH o n) (fun x hx => ⟨newH_lt r.ord hx, r.at hx, by unfold newH; omega⟩) (fun x hx => r.inv.lt x hx)
  · intro h
    have := conn_conj (m := m') (m' := m) (T := wasH o) (t := ordN o) (fun x hx => ⟨wasH_lt r.ord hx, by
      rw [r.eq x hx, wasH_new r.ord (r.inv.lt _ (wasH_lt r.ord hx))], by unfold wasH; omega⟩) (fun x hx => r.inv'.lt x hx) h
    rw [qa.1, qb.1] at this
    exact this
theorem closed_lab {m : Nat → Nat} {n : Nat} (s l : Nat) : ClosedN (fun x => trn (m x) s) (4 * n) (fun h => ufLab m (4 * n) (h / 4) == l) := fun h hh e => by
  have := (ufLab_isLab m (4 * n) n).2 h hh
  simp only [trn_div, ← this]
  exact e
theorem Ren.sph (r : Ren o n m m') (h : sphB (ufLab m (4 * n)) (fun x => trn (m x) 3) (4 * n) n = true) : sphB (ufLab m' (4 * n)) (fun x => trn (m' x) 3) (4 * n) n = true := by
  rw [sphB_iff] at h ⊢
  intro c hc
  obtain ⟨a, ha, rfl⟩ := (invN_perm r.ord).onto hc
  have h0 := h a ha
  rw [cntF_reprs (r.inv.perm 3) (closed_lab 3 _)] at h0
  rw [cntF_reprs (r.inv'.perm 3) (closed_lab 3 _)]
  have e1 := reprs_conj (r.inv.perm 3) (r.inv'.perm 3) (newH_perm r.ord) (fun x hx => r.step 3 hx) (p := fun h => ufLab m (4 * n) (h / 4) == ufLab m (4 * n) a) (p' := fun h => ufLab m' (4 * n) (h / 4) == ufLab m' (4 * n) (invN o n a)) (fun x hx => by
    have e : newH o n x / 4 = invN o n (x / 4) := by unfold newH; omega
    rw [Bool.eq_iff_iff, e]
    simp only [beq_iff_eq]
    exact (r.lab (by omega) ha).symm) (closed_lab 3 _) (closed_lab 3 _)
  have e2 : cntV (ufLab m' (4 * n)) n (ufLab m' (4 * n) (invN o n a)) = cntV (ufLab m (4 * n)) n (ufLab m (4 * n) a) := by
    unfold cntV
    rw [List.countP_eq_length_filter, List.countP_eq_length_filter]
    have := (filter_map_perm (invN_perm r.ord) (p := fun c => ufLab m (4 * n) c == ufLab m (4 * n) a) (p' := fun c => ufLab m' (4 * n) c == ufLab m' (4 * n) (invN o n a)) fun x hx => by
      rw [Bool.eq_iff_iff]
      simp only [beq_iff_eq]
      exact (r.lab hx ha).symm).length_eq
    rw [List.length_map] at this
    exact this
  rw [← e1, e2]; exact h0
end

end Go.Proofs.Ytebliaclleplgaa

/- Plain mathematics: turning crossings about, and reflecting all of them, keeps the faces' number in each component. -/
namespace Go.Proofs.Ytebliaclleplgaa

/-- T changes the slots of each crossing, and takes the mates m to m'. -/
structure Slots (m m' T : Nat → Nat) (n : Nat) : Prop where
  i : Invol m (4 * n)
  i' : Invol m' (4 * n)
  q : Perm T (4 * n)
  div : ∀ x, T x / 4 = x / 4
  mate : ∀ x, x < 4 * n → m' (T x) = T (m x)
theorem Perm.hits {t : Nat → Nat} {N : Nat} (q : Perm t N) {x : Nat} (hx : x < N) : ∃ y, y < N ∧ t y = x := by
  obtain ⟨i, hi, e⟩ := q.returns hx
  exact ⟨it t i x, q.it_lt hx i, e⟩
theorem Slots.lab {m m' T : Nat → Nat} {n : Nat} (s : Slots m m' T n) : IsLab m' (4 * n) n (ufLab m (4 * n)) := by
  obtain ⟨h1, h2⟩ := ufLab_isLab m (4 * n) n
  refine ⟨fun c hc => ⟨(h1 c hc).1, ?_⟩, fun h hh => ?_⟩
  · exact conn_conj (T := T) (t := id) (fun x hx => ⟨s.q.lt x hx, s.mate x hx, s.div x⟩) s.i.lt (h1 c hc).2
  · obtain ⟨x, hx, rfl⟩ := s.q.hits hh
    rw [s.mate x hx, s.div, s.div]
    exact h2 x hx
theorem closed_of {m F : Nat → Nat} {n : Nat} (h : ∀ x, x < 4 * n → F (x / 4) = F (m x / 4)) (k l : Nat) : ClosedN (fun x => trn (m x) k) (4 * n) (fun h => F (h / 4) == l) := fun x hx e => by
  simp only [trn_div, ← h x hx]
  exact e
theorem orb_back {f g : Nat → Nat} {N : Nat} (q : Perm g N) (hfg : ∀ x, x < N → f (g x) = x) {a b : Nat} (ha : a < N) (o : Orb g a b) : Orb f b a := by
  have key : ∀ i x, x < N → it f i (it g i x) = x := by
    intro i
    induction i with
    | zero => intro x _; rfl
    | succ i ih =>
      intro x hx
      have e1 : it f (i + 1) (it g (i + 1) x) = it f i (f (g (it g i x))) := it_add f i 1 _
      rw [e1, hfg _ (q.it_lt hx i)]
      exact ih x hx
  obtain ⟨i, e⟩ := o
  exact ⟨i, by rw [← e]; exact key i a ha⟩
/-- A permutation and its inverse have the same cycles. -/
theorem fst_inv {f g : Nat → Nat} {N : Nat} (p : Perm f N) (q : Perm g N) (hfg : ∀ x, x < N → f (g x) = x) {h : Nat} (hh : h < N) : fst g N h = fst f N h := by
  have hgf : ∀ x, x < N → g (f x) = x := fun x hx => p.inj _ _ (q.lt _ (p.lt x hx)) hx (hfg _ (p.lt x hx))
  rw [Bool.eq_iff_iff, p.fst_iff hh, q.fst_iff hh]
  constructor
  · intro a h' hlt o
    exact a h' hlt (q.orb_symm hh (orb_back p hgf (by omega) o))
  · intro a h' hlt o
    exact a h' hlt (p.orb_symm hh (orb_back q hfg (by omega) o))
theorem cntF_inv {f g F : Nat → Nat} {N l : Nat} (p : Perm f N) (q : Perm g N) (hfg : ∀ x, x < N → f (g x) = x) : cntF F g N N l = cntF F f N N l := by
  unfold cntF
  rw [List.countP_eq_length_filter, List.countP_eq_length_filter]
  congr 1
  exact List.filter_congr fun x hx => by rw [fst_inv p q hfg (by simpa using hx)]
theorem trn_31 (x : Nat) : trn (trn x 3) 1 = x ∧ trn (trn x 1) 3 = x := by unfold trn; omega

section
variable {m m' T : Nat → Nat} {n : Nat}
theorem Slots.eqs (s : Slots m m' T n) (h : ∀ l, cntF (ufLab m (4 * n)) (fun x => trn (m' x) 3) (4 * n) (4 * n) l = cntF (ufLab m (4 * n)) (fun x => trn (m x) 3) (4 * n) (4 * n) l) :
    sphB (ufLab m' (4 * n)) (fun x => trn (m' x) 3) (4 * n) n = sphB (ufLab m (4 * n)) (fun x => trn (m x) 3) (4 * n) n := by
  rw [sphB_congr fun c hc => (ufLab_isLab m' (4 * n) n).unique s.lab c hc, Bool.eq_iff_iff, sphB_iff, sphB_iff]
  exact ⟨fun a c hc => by rw [← h]; exact a c hc, fun a c hc => by rw [h]; exact a c hc⟩
/-- Each crossing is turned about by some quarters. -/
theorem Slots.turned (s : Slots m m' T n) (ht : ∀ x, T (trn x 3) = trn (T x) 3) : sphB (ufLab m' (4 * n)) (fun x => trn (m' x) 3) (4 * n) n = sphB (ufLab m (4 * n)) (fun x => trn (m x) 3) (4 * n) n := by
  have hl := (ufLab_isLab m (4 * n) n).2
  refine s.eqs fun l => ?_
  rw [cntF_reprs (s.i'.perm 3) (closed_of s.lab.2 3 l), cntF_reprs (s.i.perm 3) (closed_of hl 3 l)]
  exact (reprs_conj (s.i.perm 3) (s.i'.perm 3) s.q (fun x hx => by show trn (m' (T x)) 3 = T (trn (m x) 3); rw [s.mate x hx, ht]) (fun x _ => by simp only [s.div]) (closed_of hl 3 l) (closed_of s.lab.2 3 l)).symm
/-- Each crossing is reflected. -/
theorem Slots.reflected (s : Slots m m' T n) (ht : ∀ x, T (trn x 1) = trn (T x) 3) : sphB (ufLab m' (4 * n)) (fun x => trn (m' x) 3) (4 * n) n = sphB (ufLab m (4 * n)) (fun x => trn (m x) 3) (4 * n) n := by
  have hl := (ufLab_isLab m (4 * n) n).2
  have hl1 : ∀ x, x < 4 * n → ufLab m (4 * n) (x / 4) = ufLab m (4 * n) (m (trn x 1) / 4) := fun x hx => by
    have := hl (trn x 1) (trn_lt hx)
    rwa [trn_div] at this
  have qi : Perm (fun x => m (trn x 1)) (4 * n) := ⟨fun x hx => s.i.lt _ (trn_lt hx), fun x y hx hy e => by
    have e2 : m (m (trn x 1)) = m (m (trn y 1)) := congrArg m e
    rw [s.i.inv _ (trn_lt hx), s.i.inv _ (trn_lt hy)] at e2
    exact trn_inj e2⟩
  have qm : Perm m (4 * n) := ⟨fun x hx => s.i.lt x hx, fun x y hx hy e => by rw [← s.i.inv x hx, ← s.i.inv y hy, e]⟩
  refine s.eqs fun l => ?_
  have ci : ClosedN (fun x => m (trn x 1)) (4 * n) (fun h => ufLab m (4 * n) (h / 4) == l) := fun x hx e => by
    simp only [← hl1 x hx]; exact e
  have e1 : cntF (ufLab m (4 * n)) (fun x => m (trn x 1)) (4 * n) (4 * n) l = cntF (ufLab m (4 * n)) (fun x => trn (m x) 3) (4 * n) (4 * n) l :=
    cntF_inv (s.i.perm 3) qi (fun x hx => by show trn (m (m (trn x 1))) 3 = x; rw [s.i.inv _ (trn_lt hx), (trn_31 x).2])
  rw [← e1, cntF_reprs (s.i'.perm 3) (closed_of s.lab.2 3 l), cntF_reprs qi ci]
  have e2 := reprs_conj (f := fun x => m (trn x 1)) (g := fun x => trn (m x) 1) qi (s.i.perm 1) qm (fun x hx => by show trn (m (m x)) 1 = m (m (trn x 1)); rw [s.i.inv x hx, s.i.inv _ (trn_lt hx)])
    (p := fun h => ufLab m (4 * n) (h / 4) == l) (p' := fun h => ufLab m (4 * n) (h / 4) == l) (fun x hx => by simp only [← hl x hx]) ci (closed_of hl 1 l)
  have e3 := reprs_conj (f := fun x => trn (m x) 1) (g := fun x => trn (m' x) 3) (s.i.perm 1) (s.i'.perm 3) s.q (fun x hx => by show trn (m' (T x)) 3 = T (trn (m x) 1); rw [s.mate x hx, ht])
    (p := fun h => ufLab m (4 * n) (h / 4) == l) (p' := fun h => ufLab m (4 * n) (h / 4) == l) (fun x _ => by simp only [s.div]) (closed_of hl 1 l) (closed_of s.lab.2 3 l)
  rw [e2, e3]
end

end Go.Proofs.Ytebliaclleplgaa

/- Plain mathematics: which signs make the diagram of a code valid, where strands pass over or under, and in a mirror. -/
namespace Go.Proofs.Ytebliaclleplgaa
open Go.RowKit

section
variable {code s : List Int} {n : Nat}
theorem succ_inj {L k j : Nat} (hk : k < L) (hj : j < L) (e : (k + 1) % L = (j + 1) % L) : k = j := by
  by_cases a : k + 1 = L <;> by_cases b : j + 1 = L
  · omega
  · rw [a, Nat.mod_self, Nat.mod_eq_of_lt (by omega : j + 1 < L)] at e; omega
  · rw [b, Nat.mod_self, Nat.mod_eq_of_lt (by omega : k + 1 < L)] at e; omega
  · rw [Nat.mod_eq_of_lt (by omega : k + 1 < L), Nat.mod_eq_of_lt (by omega : j + 1 < L)] at e; omega
theorem jn_back {E : Nat → Nat} {L : Nat} {M : Nat → Nat} (hi : ∀ p q, p < L → q < L → E p = E q → p = q) (ho : ∀ p q, p < L → q < L → E p ≠ trn (E q) 2) (hL : 0 < L) (K : Nat) (hK : K ≤ L) {k : Nat} (hk : k < K) : jnN E L K M (trn (E ((k + 1) % L)) 2) = E k := by
  induction K with
  | zero => omega
  | succ K ih =>
    show upd (upd _ _ _) _ _ _ = _
    by_cases e : k = K
    · subst e; rw [upd_same]
    · rw [upd_other _ _ _ _ (fun q => e (succ_inj (by omega) (by omega) (hi _ _ (Nat.mod_lt _ hL) (Nat.mod_lt _ hL) (trn_inj q)))), upd_other _ _ _ _ (fun q => ho K _ (by omega) (Nat.mod_lt _ hL) q.symm)]
      exact ih (by omega) (by omega)
theorem mk_mate (h : dvB code = true) (hn : code.length = n) (hs : sgnsB s = true) (hl : s.length = n) {k : Nat} (hk : k < 2 * n) :
    mt (mkM code s) (exN code s n k) = (trn (exN code s n ((k + 1) % (2 * n))) 2 : Nat) ∧ mt (mkM code s) (trn (exN code s n ((k + 1) % (2 * n))) 2) = (exN code s n k : Nat) := by
  have hlt := (ex_out h hn hs hl hk).2.2
  have hlt2 : trn (exN code s n ((k + 1) % (2 * n))) 2 < 4 * n := trn_lt (ex_out h hn hs hl (Nat.mod_lt (k + 1) (by omega : 0 < 2 * n))).2.2
  have ho : ∀ p q, p < 2 * n → q < 2 * n → exN code s n p ≠ trn (exN code s n q) 2 := fun p q hp hq e => by
    have h1 := (ex_out h hn hs hl hp).1
    rw [e, (ex_out h hn hs hl hq).2.1] at h1
    cases h1
  have hj := jn_at (E := exN code s n) (L := 2 * n) (M := fun _ => 0) (fun p q hp hq e => ex_inj h hn hp hq e) ho (by omega) (2 * n) (Nat.le_refl _) hk
  have hb := jn_back (E := exN code s n) (L := 2 * n) (M := fun _ => 0) (fun p q hp hq e => ex_inj h hn hp hq e) ho (by omega) (2 * n) (Nat.le_refl _) hk
  unfold mt mkM
  rw [hn, lstN_get hlt, lstN_get hlt2, hj, hb]
  exact ⟨rfl, rfl⟩
theorem mkM_len (hn : code.length = n) : (mkM code s).length = 4 * n := by unfold mkM; rw [lstN_length, hn]
/-- The mates of a code's diagram are always paired. -/
theorem pair_mk (h : dvB code = true) (hn : code.length = n) (hs : sgnsB s = true) (hl : s.length = n) : pairB s (mkM code s) = true := by
  refine (pairB_iff _ _).2 fun x hx => ?_
  rw [mkM_len hn] at hx
  obtain ⟨k, hk, e⟩ := jn_cover s h hn hx
  obtain ⟨m1, m2⟩ := mk_mate h hn hs hl hk
  obtain ⟨o1, _, l1⟩ := ex_out h hn hs hl hk
  obtain ⟨_, o2, l2⟩ := ex_out h hn hs hl (Nat.mod_lt (k + 1) (by omega : 0 < 2 * n))
  have l3 : trn (exN code s n ((k + 1) % (2 * n))) 2 < 4 * n := trn_lt l2
  unfold pOK
  rw [mkM_len hn]
  rcases e with e | e
  · rw [← e, m1, Int.toNat_natCast, m2, o1, o2]
    simp; omega
  · rw [← e, m2, Int.toNat_natCast, m1, o1, o2]
    simp; omega
theorem mk_invol (h : dvB code = true) (hn : code.length = n) (hs : sgnsB s = true) (hl : s.length = n) : Invol (matesOf (mkM code s)) (4 * n) := matesOf_invol (pair_mk h hn hs hl) (mkM_len hn)
/-- A code's diagram is valid exactly where it is drawn on spheres. -/
theorem mk_valid (h : dvB code = true) (hn : code.length = n) (hs : sgnsB s = true) (hl : s.length = n) : validB s (mkM code s) 0 = sphB (ufLab (matesOf (mkM code s)) (4 * n)) (fun x => trn (matesOf (mkM code s) x) 3) (4 * n) n := by
  have hl64 := ((dvB_iff code).1 h).2.1
  have hlim : limB s.length (mkM code s).length 0 = true := by
    unfold limB; rw [mkM_len hn, hl]; simp; omega
  unfold validB sphM
  rw [hlim, hs, pair_mk h hn hs hl, mkM_len hn, hl]
  rfl
theorem mk_conj {code' s' : List Int} {T : Nat → Nat} (h : dvB code = true) (h' : dvB code' = true) (hn : code.length = n) (hn' : code'.length = n) (hs : sgnsB s = true) (hs' : sgnsB s' = true) (hl : s.length = n) (hl' : s'.length = n)
    (hE : ∀ p, p < 2 * n → exN code' s' n p = T (exN code s n p)) (hT : ∀ x, T (trn x 2) = trn (T x) 2) {x : Nat} (hx : x < 4 * n) : matesOf (mkM code' s') (T x) = T (matesOf (mkM code s) x) := by
  obtain ⟨k, hk, e⟩ := jn_cover s h hn hx
  obtain ⟨m1, m2⟩ := mk_mate h hn hs hl hk
  obtain ⟨m1', m2'⟩ := mk_mate h' hn' hs' hl' hk
  have hk2 := Nat.mod_lt (k + 1) (by omega : 0 < 2 * n)
  rw [hE _ hk2, ← hT] at m1' m2'
  rw [hE _ hk] at m1' m2'
  unfold matesOf
  rcases e with e | e
  · rw [← e, m1, m1']; rfl
  · rw [← e, m2, m2']; rfl
end

/-- The half-edge in the mirror. -/
def rho (x : Nat) : Nat := 4 * (x / 4) + (4 - x % 4) % 4
theorem rho_perm (n : Nat) : Perm rho (4 * n) := ⟨fun x hx => by unfold rho; omega, fun x y _ _ e => by unfold rho at e; omega⟩
def negL (s : List Int) : List Int := s.map fun x => -x
theorem negL_length (s : List Int) : (negL s).length = s.length := by simp [negL]
theorem negL_get (s : List Int) (i : Nat) : (negL s).getD i 0 = -(s.getD i 0) := by
  unfold negL
  by_cases h : i < s.length
  · simp [List.getD, h]
  · simp [List.getD, show s.length ≤ i by omega]
theorem negL_neg (s : List Int) : negL (negL s) = s := by
  unfold negL; rw [List.map_map]
  exact (List.map_congr_left fun x _ => by simp).trans (List.map_id _)
theorem sg_neg {s : List Int} (h : sgnsB s = true) : sgnsB (negL s) = true := by
  refine (sgnsB_iff _).2 fun j hj => ?_
  rw [negL_length] at hj
  have := sg_cases h hj
  unfold sgB
  rw [negL_get]
  rcases this with e | e <;> rw [e] <;> rfl
/-- In a mirror all signs change. -/
theorem valid_neg {code s : List Int} {n : Nat} (h : dvB code = true) (hn : code.length = n) (hs : sgnsB s = true) (hl : s.length = n) : validB (negL s) (mkM code (negL s)) 0 = validB s (mkM code s) 0 := by
  have hs' := sg_neg hs
  have hl' : (negL s).length = n := by rw [negL_length, hl]
  rw [mk_valid h hn hs hl, mk_valid h hn hs' hl']
  have hE : ∀ p, p < 2 * n → exN code (negL s) n p = rho (exN code s n p) := fun p hp => by
    obtain ⟨i, hi, e | e⟩ := pos_ex h hn hp
    · rw [e, (exN_at s h (k := n) (i := i) hi (by omega)).1, (exN_at (negL s) h (k := n) (i := i) hi (by omega)).1, negL_get]
      rcases sg_cases hs (i := i) (by omega) with q | q <;> rw [q]
      · show 4 * i + 3 = rho (4 * i + 1); unfold rho; omega
      · show 4 * i + 1 = rho (4 * i + 3); unfold rho; omega
    · rw [e, (exN_at s h (k := n) (i := i) hi (by omega)).2, (exN_at (negL s) h (k := n) (i := i) hi (by omega)).2]
      unfold rho; omega
  exact Slots.reflected (T := rho) ⟨mk_invol h hn hs hl, mk_invol h hn hs' hl', rho_perm n, fun x => by unfold rho; omega, fun x hx => mk_conj h h hn hn hs hs' hl hl' hE (fun x => by unfold rho trn; omega) hx⟩ (fun x => by unfold rho trn; omega)

/-- code' is code where the strands of the crossings with P pass the other way. -/
structure Flip (P : Nat → Bool) (code code' : List Int) : Prop where
  len : code'.length = code.length
  eq : ∀ i, i < code.length → code'.getD i 0 = if P i = true then -(code.getD i 0) else code.getD i 0
theorem dv_small {code : List Int} (h : dvB code = true) {i : Nat} (hi : i < code.length) : szI (-(code.getD i 0)) = szI (code.getD i 0) ∧ code.getD i 0 ≠ 0 ∧ -128 ≤ code.getD i 0 ∧ code.getD i 0 ≤ 128 := by
  obtain ⟨_, h2, h3⟩ := (dvB_iff code).1 h
  obtain ⟨a, b, _, _⟩ := (okAt_iff code i).1 (h3 i hi)
  generalize code.getD i 0 = x at *
  unfold szI at *
  by_cases e : x = -9223372036854775808
  · rw [if_pos e] at a; omega
  · rw [if_neg e] at a b ⊢
    rw [if_neg (by split at b <;> omega)]
    split at a <;> split <;> omega
section
variable {P : Nat → Bool} {code code' : List Int}
theorem Flip.sz (f : Flip P code code') (h : dvB code = true) {i : Nat} (hi : i < code.length) : szI (code'.getD i 0) = szI (code.getD i 0) := by
  rw [f.eq i hi]
  split
  · exact (dv_small h hi).1
  · rfl
theorem Flip.dv (f : Flip P code code') (h : dvB code = true) : dvB code' = true := by
  obtain ⟨h1, h2, h3⟩ := (dvB_iff code).1 h
  refine (dvB_iff _).2 ⟨by rw [f.len]; exact h1, by rw [f.len]; exact h2, fun i hi => (okAt_iff _ _).2 ?_⟩
  rw [f.len] at hi ⊢
  obtain ⟨a, b, c, d⟩ := (okAt_iff code i).1 (h3 i hi)
  rw [f.sz h hi]
  exact ⟨a, b, c, fun j hj => by rw [f.sz h (by omega)]; exact d j hj⟩
theorem Flip.half (f : Flip P code code') (h : dvB code = true) {i : Nat} (hi : i < code.length) : dhalf code' i = dhalf code i := by unfold dhalf; rw [f.sz h hi]
theorem Flip.ov (f : Flip P code code') (h : dvB code = true) {i : Nat} (hi : i < code.length) : ovN code' i = (if P i = true then unN code i else ovN code i) ∧ unN code' i = (if P i = true then ovN code i else unN code i) := by
  have hd := f.half h hi
  have he := f.eq i hi
  have hz := (dv_small h hi).2.1
  unfold ovN unN
  rw [hd, he]
  cases P i
  · simp
  · simp only [if_true]
    by_cases q : code.getD i 0 < 0
    · rw [if_neg (by omega), if_pos q, if_neg (by omega), if_pos q]; exact ⟨rfl, rfl⟩
    · rw [if_pos (by omega), if_neg q, if_pos (by omega), if_neg q]; exact ⟨rfl, rfl⟩
/-- The signs, changed at the crossings with P. -/
def flS (P : Nat → Bool) (s : List Int) : List Int := (List.range s.length).map fun i => if P i = true then -(s.getD i 0) else s.getD i 0
theorem flS_length (P : Nat → Bool) (s : List Int) : (flS P s).length = s.length := by simp [flS]
theorem flS_get (P : Nat → Bool) {s : List Int} {i : Nat} (hi : i < s.length) : (flS P s).getD i 0 = if P i = true then -(s.getD i 0) else s.getD i 0 := by simp [flS, List.getD, hi]
theorem sg_flS (P : Nat → Bool) {s : List Int} (h : sgnsB s = true) : sgnsB (flS P s) = true := by
  refine (sgnsB_iff _).2 fun j hj => ?_
  rw [flS_length] at hj
  have := sg_cases h hj
  unfold sgB
  rw [flS_get P hj]
  rcases this with e | e <;> rw [e] <;> split <;> rfl
/-- A crossing whose strands pass the other way is turned about by a quarter. -/
def rotT (P : Nat → Bool) (s : List Int) (x : Nat) : Nat := if P (x / 4) = true then trn x (if s.getD (x / 4) 0 = 1 then 1 else 3) else x
theorem rotT_trn (P : Nat → Bool) (s : List Int) (k x : Nat) : rotT P s (trn x k) = trn (rotT P s x) k := by
  unfold rotT
  rw [trn_div]
  split
  · split <;> (unfold trn; omega)
  · rfl
theorem rotT_div (P : Nat → Bool) (s : List Int) (x : Nat) : rotT P s x / 4 = x / 4 := by
  unfold rotT; split
  · exact trn_div _ _
  · rfl
theorem rotT_perm (P : Nat → Bool) (s : List Int) (n : Nat) : Perm (rotT P s) (4 * n) := by
  refine ⟨fun x hx => by have := rotT_div P s x; omega, fun x y hx hy e => ?_⟩
  have hd : x / 4 = y / 4 := by rw [← rotT_div P s x, ← rotT_div P s y, e]
  unfold rotT at e
  rw [hd] at e
  split at e
  · exact trn_inj e
  · exact e
theorem Flip.valid {s : List Int} {n : Nat} (f : Flip P code code') (h : dvB code = true) (hn : code.length = n) (hs : sgnsB s = true) (hl : s.length = n) : validB (flS P s) (mkM code' (flS P s)) 0 = validB s (mkM code s) 0 := by
  have hs' := sg_flS P hs
  have hl' : (flS P s).length = n := by rw [flS_length, hl]
  have h' := f.dv h
  have hn' : code'.length = n := by rw [f.len, hn]
  rw [mk_valid h hn hs hl, mk_valid h' hn' hs' hl']
  have hE : ∀ p, p < 2 * n → exN code' (flS P s) n p = rotT P s (exN code s n p) := fun p hp => by
    obtain ⟨i, hi, e⟩ := pos_ex h hn hp
    have a := exN_at s h (k := n) (i := i) hi (by omega)
    have b := exN_at (flS P s) h' (k := n) (i := i) hi (by omega)
    have o := f.ov h (i := i) (by omega)
    rw [o.1, o.2, flS_get P (by omega)] at b
    have hsi := sg_cases hs (i := i) (by omega)
    unfold rotT
    cases hP : P i
    · rw [hP] at b
      simp only [Bool.false_eq_true, if_false] at b
      rcases e with e | e
      · rw [e, b.1, a.1]
        have := soN_cases (s.getD i 0)
        rw [show (4 * i + soN (s.getD i 0)) / 4 = i by omega, hP]; rfl
      · rw [e, b.2, a.2, show (4 * i + 2) / 4 = i by omega, hP]; rfl
    · rw [hP] at b
      simp only [if_true] at b
      rcases e with e | e
      · rw [e, b.2, a.1]
        rcases hsi with q | q <;> rw [q]
        · rw [show soN 1 = 1 from rfl, show (4 * i + 1) / 4 = i by omega, hP, q]
          show 4 * i + 2 = trn (4 * i + 1) 1; unfold trn; omega
        · rw [show soN (-1) = 3 from rfl, show (4 * i + 3) / 4 = i by omega, hP, q]
          show 4 * i + 2 = trn (4 * i + 3) 3; unfold trn; omega
      · rw [e, b.1, a.2, show (4 * i + 2) / 4 = i by omega, hP]
        rcases hsi with q | q <;> rw [q]
        · show 4 * i + 3 = trn (4 * i + 2) 1; unfold trn; omega
        · show 4 * i + 1 = trn (4 * i + 2) 3; unfold trn; omega
  exact Slots.turned (T := rotT P s) ⟨mk_invol h hn hs hl, mk_invol h' hn' hs' hl', rotT_perm P s n, rotT_div P s, fun x hx => mk_conj h h' hn hn' hs hs' hl hl' hE (rotT_trn P s 2) hx⟩ (rotT_trn P s 3)
end

end Go.Proofs.Ytebliaclleplgaa

/- Plain: what the code of a knot's diagram draws with the diagram's signs is valid. -/
namespace Go.Proofs.Ytebliaclleplgaa

theorem back_valid {s m : List Int} {lp : Int} (hv : validB s m lp = true) (h1 : 1 ≤ s.length) {st : List Int} (K : KnotSt st s.length) (hls : sgnsB (sgF s st s.length) = true)
    (F : IsoF (matesOf (mkM (cdF st s.length) (sgF s st s.length))) (matesOf m) (gz (sgF s st s.length)) (gz s) s.length (fun i => cr st (2 * i))) : validB (sgF s st s.length) (mkM (cdF st s.length) (sgF s st s.length)) 0 = true := by
  obtain ⟨n, e1, e2, hi, _, hs⟩ := bk_data hv
  have B := bk_facts hv
  rw [e1] at K hls F h1 ⊢
  have h64 : n ≤ 64 := by rw [← e1]; exact B.le
  have ho : ∀ i, i < n → ordN (lstN n fun i => cr st (2 * i)) i = cr st (2 * i) := fun i hi => by unfold ordN; rw [lstN_get hi]; rfl
  have hord : IsOrd (lstN n fun i => cr st (2 * i)) n := ⟨lstN_length _ _, fun i hi => by
    rw [lstN_get hi]; have := (K.rg (2 * i) (by omega)).2; omega, fun i j hij hj e => by
    rw [lstN_get (by omega), lstN_get hj] at e
    have := K.ev i j (by omega) hj (by omega)
    omega⟩
  have r : Ren (lstN n fun i => cr st (2 * i)) n (matesOf m) (matesOf (mkM (cdF st n) (sgF s st n))) := ⟨hord, hi, fun x hx => by
    have hw : wasH (lstN n fun i => cr st (2 * i)) x = 4 * cr st (2 * (x / 4)) + x % 4 := by unfold wasH; rw [ho _ (by omega)]
    have hax := F.a x hx
    have hw2 : wasH (lstN n fun i => cr st (2 * i)) (matesOf (mkM (cdF st n) (sgF s st n)) x) = 4 * cr st (2 * (matesOf (mkM (cdF st n) (sgF s st n)) x / 4)) + matesOf (mkM (cdF st n) (sgF s st n)) x % 4 := by unfold wasH; rw [ho _ (by omega)]
    rw [hw, F.m x hx, ← hw2, newH_was hord hax]⟩
  rw [mk_valid (K.valid h1 h64) (cdF_length st n) hls (sgF_length s st n)]
  exact r.sph hs

end Go.Proofs.Ytebliaclleplgaa

/- Walk: the function literal that tries the signs. -/
namespace Go.Proofs.Ytebliaclleplgaa
open Go.RowKit

theorem mt_lstN {n j : Nat} {M : Nat → Nat} (hM : ∀ x, x < n → M x < 1000000) : -9223372036854775808 ≤ mt (lstN n M) j ∧ mt (lstN n M) j ≤ 9223372036854775807 := by
  unfold mt
  by_cases h : j < n
  · rw [lstN_get h]; have := hM j h; omega
  · have : (lstN n M).getD j 0 = 0 := by simp [lstN, List.getD, h]
    rw [this]; omega
theorem jn_small {E : Nat → Nat} {L n : Nat} {M : Nat → Nat} (hE : ∀ x, E x < 4 * n) (hM : ∀ x, M x < 1000000) (hn : 4 * n ≤ 1000) (K x : Nat) : jnN E L K M x < 1000000 := by
  induction K generalizing x with
  | zero => exact hM x
  | succ K ih =>
    show upd (upd _ _ _) _ _ x < _
    unfold upd
    have h1 := hE K
    have h2 := hE ((K + 1) % L)
    split
    · omega
    · split
      · unfold trn; omega
      · exact ih x

set_option maxHeartbeats 3200000 in
set_option maxRecDepth 100000 in
theorem drawn_any (gc gn gd gf gS gM n cs cm cc : Nat) (C : Option Addr) (w0 : World) (code : List Int) (h64 : n ≤ 64) (hI : inL code) (hv : dvB code = true) (k : Nat) : ∀ (i : Nat) (S : Nat → Int) (M : Nat → Nat) (w : World) (b : Bool), i + k = n → (∀ x, M x < 1000000) →
    Scn gc gn gd gf gS gM n cs cm cc C w0 code w S M → (srch code k (lstI i S)).isSome = b →
    Calls Try.prog 43 #[.int .i64 i, .pointer (some ⟨gn, 0, none⟩), .pointer (some ⟨gd, 0, none⟩), .pointer (some ⟨gc, 0, none⟩), .pointer (some ⟨gf, 0, none⟩)] w
      (fun e w' => DrPost gc gn gd gf gS gM n cs cm cc C w0 code i S b (srch code k (lstI i S)) e w') := by
  have HI := Lib.hid hI
  have HV := Lib.hid hv
  clear hI hv
  induction k with
  | zero =>
    intro i S M w b hik hMs h hb
    obtain rfl : i = n := by omega
    have hcl := h.hC.1
    have CJ := Lib.hid (join_any (some ⟨gS, 0, none⟩) C i cs cc cm gM 0 code (lstI i S) M w (h.hC.keep h.hb) (ri_arr h.aS) h64 HI.out HV.out h.aM)
    have HMJ : Hid (∀ x, jnN (exN code (lstI i S) i) (2 * i) (2 * i) M x < 1000000) := Lib.hid (jn_small (n := i) (fun x => by have := exN_lt code (lstI i S) i x; have := (dvB_iff code).1 HV.out; omega) hMs (by omega) _)
    have HMK := Lib.hid (mkM_eq (lstI i S) HV.out hcl M)
    obtain ⟨c0, c1, c2, clt⟩ := h.cd
    have hcn := h.cn
    have hcc := h.cc
    have CV : ∀ W, Below w.heap.size w W ∨ True → w.grownBy W (some gM) → Arr W gM 3 (4 * i) (iv (jnN (exN code (lstI i S) i) (2 * i) (2 * i) M)) → Hid (Calls Try.prog 19 #[dval (some ⟨gS, 0, none⟩) i cs (some ⟨gM, 0, none⟩) (4 * i) cm 0] W fun e w' => e = .returned (.bool b) ∧ Below W.heap.size W w') := fun W _ hg hA =>
      DV.valid (signs := lstI i S) (mate := lstN (4 * i) (jnN (exN code (lstI i S) i) (2 * i) (2 * i) M)) ⟨ri_arr (h.aS.grown hg (by have := h.ne.1; simp; omega)), rn_arr hA, by omega, by omega, fun j _ => mt_lstN fun x _ => HMJ.out x⟩ cs cm 0 b (by
        rw [HMK.out, ← hb]
        show _ = Option.isSome (if _ then _ else _)
        cases q : validB (lstI i S) (mkM code (lstI i S)) 0 <;> simp)
    have HS := Lib.hid h
    have HR : Hid (∀ l, srch code 0 (lstI i S) = some l → lstI i S = l) := Lib.hid (fun l hl => by
      have hl' : (if validB (lstI i S) (mkM code (lstI i S)) 0 = true then some (lstI i S) else none) = some l := hl
      split at hl'
      · injection hl'
      · cases hl')
    clear h hMs hb hik hcl
    go_enter Try.func43, Try.ntmps43
    go_wp2_with (first
      | (go_at_call 44; ((with_reducible refine CJ.out.mono ?_); rintro e w1 ⟨rfl, hg1, hA1⟩; have hs1 := HS.out.joined hg1 hA1; obtain ⟨e0, e1, e2, elt⟩ := hs1.cd; have CVI := CV w1 (.inr trivial) hg1 hA1; have HS1 := Lib.hid hs1; clear hs1))
      | (go_at_call 19; ((with_reducible refine CVI.out.mono ?_); rintro e w2 ⟨rfl, hb2⟩)))
    go_ret
    exact ⟨S, _, rfl, HS1.out.keep hb2, HMJ.out, fun _ _ => rfl, fun l hl => by
      have e := HR.out l hl
      exact ⟨e, by rw [← e]; exact HMK.out⟩⟩
  | succ k ih =>
    intro i S M w b hik hMs h hb
    obtain ⟨p, hp⟩ : ∃ p, lstI i S = p := ⟨_, rfl⟩
    have hin : i < n := by omega
    have hcn := h.cn
    have hne : ((i : Int) == (n : Int)) = false := by simp; omega
    have HIH := Lib.hid ih
    have HB := Lib.hid hb
    rw [hp] at HB ⊢
    have HS0 : Hid (∃ S' M', Scn gc gn gd gf gS gM n cs cm cc C w0 code w S' M' ∧ (∀ x, M' x < 1000000) ∧ (∀ j, j < i → S' j = S j)) := Lib.hid ⟨S, M, h, hMs, fun _ _ => rfl⟩
    have HP := Lib.hid hp
    have hcf := enters_drawn
    clear ih hb hp hMs h
    -- one try
    have htry : ∀ (W : World) (v : Int) (S' : Nat → Int) (M' : Nat → Nat) (b' : Bool), Scn gc gn gd gf gS gM n cs cm cc C w0 code W S' M' → (∀ x, M' x < 1000000) → (∀ j, j < i → S' j = S j) → (srch code k (p ++ [v])).isSome = b' →
        Hid (Calls Try.prog 43 #[.int .i64 ((i : Int) + 1), .pointer (some ⟨gn, 0, none⟩), .pointer (some ⟨gd, 0, none⟩), .pointer (some ⟨gc, 0, none⟩), .pointer (some ⟨gf, 0, none⟩)] (W.setCell ⟨gS, i, none⟩ (.int .i64 v))
          (fun e w' => DrPost gc gn gd gf gS gM n cs cm cc C w0 code i S b' (srch code k (p ++ [v])) e w')) := fun W v S' M' b' hs hm hS hb' => by
      have hl : lstI (i + 1) (fun j => if j = i then v else S' j) = p ++ [v] := by
        rw [lstI_succ, ← HP.out]
        simp only [if_true]
        congr 1
        exact lstI_congr fun x hx => by rw [if_neg (by omega)]; exact hS x hx
      have hc := HIH.out (i + 1) (fun j => if j = i then v else S' j) M' (W.setCell ⟨gS, i, none⟩ (.int .i64 v)) b' (by omega) hm (hs.sign i v) (by rw [hl]; exact hb')
      rw [hl] at hc
      have e : ((i + 1 : Nat) : Int) = (i : Int) + 1 := by omega
      rw [e] at hc
      refine hc.mono ?_
      rintro e' w' ⟨S2, M2, h1, h2, h3, h4, h5⟩
      exact ⟨S2, M2, h1, h2, h3, fun j hj => by
        rw [h4 j (by omega)]
        show (if j = i then v else S' j) = S j
        rw [if_neg (by omega)]; exact hS j hj, h5⟩
    have HT := Lib.hid htry
    clear htry
    have hi0 : (0 : Int) ≤ (i : Int) := Int.natCast_nonneg _
    have hi1 : (i : Int) < (n : Int) := by omega
    have hn64 : (n : Int) ≤ 64 := by omega
    go_enter Try.func43, Try.ntmps43
    go_wp2
    go_loopw [7] (fun sg wr => ∃ t : Nat, t ≤ 2 ∧ sg = .int .i64 (1 - 2 * (t : Int)) ∧ (∃ S' M', Scn gc gn gd gf gS gM n cs cm cc C w0 code wr S' M' ∧ (∀ x, M' x < 1000000) ∧ (∀ j, j < i → S' j = S j)) ∧ (1 ≤ t → srch code k (p ++ [1]) = none) ∧ (2 ≤ t → srch code k (p ++ [-1]) = none)) (fun sg _ => (intOf sg + 3).toNat)
    case atStart => exact ⟨0, by omega, rfl, HS0.out, fun h => absurd h (by omega), fun h => absurd h (by omega)⟩
    case round =>
      obtain ⟨t, ht, rfl, ⟨S', M', hs, hm, hS⟩, ha, hb⟩ := hrel
      obtain ⟨c0, c1, c2, clt⟩ := hs.cd
      have ccf := hs.cf
      have fS := hs.aS.frozen i
      have cS := hs.aS.cell i hin
      have HSs := Lib.hid hs
      rcases (show t = 0 ∨ t = 1 ∨ t = 2 by omega) with rfl | rfl | rfl
      · have cf2 := (hs.sign i 1).cf
        cases q : srch code k (p ++ [1]) with
        | some l =>
          have HC := HT.out wr 1 S' M' true hs hm hS (by rw [q]; rfl)
          rw [q] at HC
          have HQ : Hid (srch code (k + 1) p = some l) := Lib.hid (by show (match srch code k (p ++ [1]) with | some l => some l | none => _) = _; rw [q])
          have HBT : Hid (b = true) := Lib.hid (by rw [← HB.out, HQ.out]; rfl)
          clear q ha hb hs hm hS
          go_wp2_with ((with_reducible refine HC.out.mono ?_); rintro e w2 ⟨S2, M2, rfl, h1, h2, h3, h4⟩)
          go_ret
          exact ⟨S2, M2, ret_bool HBT.out.symm, h1, h2, h3, by rw [HQ.out]; exact h4⟩
        | none =>
          have HC := HT.out wr 1 S' M' false hs hm hS (by rw [q]; rfl)
          rw [q] at HC
          have HQ := Lib.hid q
          clear q ha hb hs hm hS
          go_wp2_with ((with_reducible refine HC.out.mono ?_); rintro e w2 ⟨S2, M2, rfl, h1, h2, h3, h4⟩)
          go_roundw
          case rel => exact ⟨1, by omega, by rfl, ⟨S2, M2, h1, h2, h3⟩, fun _ => (by first | exact HQ.out | trivial), fun h => absurd h (by omega)⟩
          case measure => simp [intOf]
      · have cf2 := (hs.sign i (-1)).cf
        have HA := Lib.hid (ha (by omega))
        cases q : srch code k (p ++ [-1]) with
        | some l =>
          have HC := HT.out wr (-1) S' M' true hs hm hS (by rw [q]; rfl)
          rw [q] at HC
          have HQ : Hid (srch code (k + 1) p = some l) := Lib.hid (by show (match srch code k (p ++ [1]) with | some l => some l | none => _) = _; rw [HA.out]; exact q)
          have HBT : Hid (b = true) := Lib.hid (by rw [← HB.out, HQ.out]; rfl)
          clear q ha hb hs hm hS
          go_wp2_with ((with_reducible refine HC.out.mono ?_); rintro e w2 ⟨S2, M2, rfl, h1, h2, h3, h4⟩)
          go_ret
          exact ⟨S2, M2, ret_bool HBT.out.symm, h1, h2, h3, by rw [HQ.out]; exact h4⟩
        | none =>
          have HC := HT.out wr (-1) S' M' false hs hm hS (by rw [q]; rfl)
          rw [q] at HC
          have HQ := Lib.hid q
          clear q ha hb hs hm hS
          go_wp2_with ((with_reducible refine HC.out.mono ?_); rintro e w2 ⟨S2, M2, rfl, h1, h2, h3, h4⟩)
          go_roundw
          case rel => exact ⟨2, by omega, by rfl, ⟨S2, M2, h1, h2, h3⟩, fun _ => (by first | exact HA.out | trivial), fun _ => (by first | exact HQ.out | trivial)⟩
          case measure => simp [intOf]
      · have HA := Lib.hid (ha (by omega))
        have HA2 := Lib.hid (hb (by omega))
        have HQ : Hid (srch code (k + 1) p = none) := Lib.hid (by show (match srch code k (p ++ [1]) with | some l => some l | none => _) = _; rw [HA.out]; exact HA2.out)
        have HBT : Hid (b = false) := Lib.hid (by rw [← HB.out, HQ.out]; rfl)
        have HM := Lib.hid hm
        have HSS := Lib.hid hS
        clear ha hb hs hm hS
        go_wp2
        go_ret
        exact ⟨S', M', ret_bool HBT.out.symm, HSs.out, HM.out, HSS.out, by rw [HQ.out]; intro l h; cases h⟩

end Go.Proofs.Ytebliaclleplgaa

/- math/bits.Mul: the contract of the library's shelf, laid at this seat's numbers. -/
namespace Go.Proofs.Ytebliaclleplgaa
open Go.Shelf Go.RowKit

def ren212 : Go.Shelf.Ren := ⟨fun | 212 => 53 | 263 => 58 | 264 => 59 | n => n, fun | 46 => 45 | 51 => 67 | 146 => 68 | 53 => 70 | 148 => 71 | n => n, fun | n => n⟩
theorem lays212 : Go.Proofs.Lays.n212 Try.prog ren212 := {
  mixed := by kernel_rfl
  f212 := Try.func53.trans (congrArg some (by kernel_rfl))
  f263 := Try.func58.trans (congrArg some (by kernel_rfl))
  f264 := Try.func59.trans (congrArg some (by kernel_rfl))
  t46 := Try.underlying45
  a46 := Try.isAgg45
  z46 := Try.sizeOf45
  v46 := Try.zeroValue45
  t51 := Try.underlying67
  a51 := Try.isAgg67
  z51 := Try.sizeOf67
  v51 := Try.zeroValue67
  t53 := Try.underlying70
  a53 := Try.isAgg70
  z53 := Try.sizeOf70
  v53 := Try.zeroValue70
  t146 := Try.underlying68
  a146 := Try.isAgg68
  z146 := Try.sizeOf68
  v146 := Try.zeroValue68
  t148 := Try.underlying71
  a148 := Try.isAgg71
  z148 := Try.sizeOf71
  v148 := Try.zeroValue71 }
theorem mul_one (n : Nat) (hn : n < 18446744073709551616) (w : World) :
    Calls Try.prog 53 #[.int .u64 1, .int .u64 (n : Nat)] w fun e w' => e = .returned (.tuple #[.int .u64 0, .int .u64 (n : Nat)]) ∧ w = w' := by
  have h := Any.bits_Mul lays212 1 n (by omega) hn w
  have e1 : 1 * n / 18446744073709551616 = 0 := by omega
  have e2 : 1 * n % 18446744073709551616 = n := by omega
  rw [e1, e2] at h
  exact h.mono fun e w' ⟨h1, h2⟩ => ⟨h1, h2.symm⟩

end Go.Proofs.Ytebliaclleplgaa

/- Walk: slices.Repeat of one int. -/
namespace Go.Proofs.Ytebliaclleplgaa
open Go.RowKit

def fillV (z : Int) (k : Nat) : Nat → Value := fun i => .int .i64 (if i < k then z else 0)
theorem cellsN_list (n : Nat) (V : Nat → Value) : cellsN n V = ((List.range n).map V).toArray := rfl
theorem splice_fill (z : Int) (n k d : Nat) (h : k + d ≤ n) : splice ((List.range n).map (fillV z k)) k (List.replicate d (.int .i64 z)) = (List.range n).map (fillV z (k + d)) := by
  apply List.ext_getElem
  · rw [length_splice _ _ _ (by simp; omega)]; simp
  · intro i h1 h2
    have hi : i < n := by simpa using h2
    simp only [splice, List.getElem_map, List.getElem_range]
    by_cases e1 : i < k
    · rw [List.getElem_append_left (by simp; omega)]
      simp [fillV, e1, show i < k + d by omega]
    · rw [List.getElem_append_right (by simp; omega)]
      by_cases e2 : i < k + d
      · rw [List.getElem_append_left (by simp; omega)]
        simp [fillV, e2]
      · rw [List.getElem_append_right (by simp; omega)]
        simp only [List.getElem_drop, List.getElem_map, List.getElem_range, List.length_replicate, List.length_take, List.length_map, List.length_range]
        have e3 : k + d + (i - min k n - d) = i := by omega
        rw [e3]
        simp [fillV, e1, e2]

theorem copy_src {wr : World} {g n k d j : Nat} {z : Int} {v : Value} (hA : Arr wr g 3 n (fillV z k)) (hd : d ≤ k) (hk : k ≤ n) (hj : (List.replicate d (Value.int IntKind.i64 z))[j]? = some v) : wr.cell? ((⟨g, 0, none⟩ : Addr).add j) = some v := by
  have hjd : j < d := by
    rcases Nat.lt_or_ge j d with h | h
    · exact h
    · rw [List.getElem?_eq_none (by simpa using h)] at hj; cases hj
  have e : v = .int .i64 z := by
    have := List.mem_of_getElem? hj
    exact List.eq_of_mem_replicate this
  have h1 := hA.cell j (by omega)
  rw [e]
  have e2 : fillV z k j = .int .i64 z := by simp [fillV, show j < k by omega]
  rw [e2] at h1
  have ea : (⟨g, 0, none⟩ : Addr).add j = ⟨g, 0 + j, none⟩ := by unfold Addr.add; split <;> simp_all
  rw [ea]
  simpa using h1

set_option maxHeartbeats 1600000 in
set_option maxRecDepth 100000 in
theorem repeat_any (b n : Nat) (z : Int) (w : World) (hb : b < w.heap.size) (hc : w.cell? ⟨b, 0, none⟩ = some (.int .i64 z)) (hn : n ≤ 1000) :
    Calls Try.prog 42 #[.slice (some ⟨b, 0, none⟩) 1 1, .int .i64 (n : Nat)] w fun e w' => e = .returned (.slice (some ⟨w.heap.size, 0, none⟩) n n) ∧ Arr w' w.heap.size 3 n (zv fun _ => z) ∧ Below w.heap.size w w' := by
  have CM := fun W => Lib.hid (mul_one n (by omega) W)
  have hmk := fun W => make_one (P := Try.prog) Try.underlying22 Try.infoInt rfl n (by omega) (by omega) W
  have hwu : IntKind.u64.wrap (n : Int) = (n : Int) := by rw [IntKind.wrap_u64]; omega
  have hn0 : (0 : Int) ≤ (n : Int) := Int.natCast_nonneg _
  have hsz : (Try.prog.info? 3).map (·.size) = some 1 := by kernel_rfl
  have hb0 := below_alloc w (.cells (cellsN n fun _ => .int .i64 0) 3)
  have hg0 : (w.alloc (.cells (cellsN n fun _ => .int .i64 0) 3)).heap[w.heap.size]? = some (.cells ((List.range n).map (fillV z 0)).toArray 3 (0, 0)) := by
    rw [← cellsN_list]
    have : cellsN n (fillV z 0) = cellsN n fun _ => .int .i64 0 := cellsN_congr fun i _ => by simp [fillV]
    rw [this]
    exact heap_alloc_new w _
  by_cases hnz : n = 0
  · have hle : ¬ 0 < n := by omega
    have hmin : Nat.min 1 n = 0 := by rw [hnz]; rfl
    have HG0 := Lib.hid hg0
    have HNZ := Lib.hid hnz
    clear hg0 hnz
    go_enter Try.func42, Try.ntmps42
    go_wp2_with (first
      | (go_at_call 53; ((with_reducible refine (CM _).out.mono ?_); rintro e w1 ⟨rfl, rfl⟩))
      | (with_reducible refine wpList_copy_nothing rfl (.tmp 31) (.tmp 32) 22 22 rfl 3 Try.underlying22 hsz (some ⟨w.heap.size, 0, none⟩) (some ⟨b, 0, none⟩) n n 1 1 rfl rfl hmin ?_))
    go_loopw [8] (fun i wr => i = .int .i64 0 ∧ wr = w.alloc (.cells (cellsN n fun _ => .int .i64 0) 3)) (fun _ _ => 0)
    case atStart => exact ⟨rfl, rfl⟩
    case round =>
      obtain ⟨rfl, rfl⟩ := hrel
      go_wp2
      go_ret
      refine ⟨rfl, ?_, hb0⟩
      unfold Arr
      rw [HG0.out, ← cellsN_list]
      congr 2
      exact cellsN_congr fun i hi => absurd hi (by have := HNZ.out; omega)
  · have hlt : 0 < n := by omega
    have hmin : [Value.int IntKind.i64 z].length = Nat.min 1 n := by
      show 1 = min 1 n
      omega
    have HMIN := Lib.hid hmin
    have HG0 := Lib.hid hg0
    have hcb : (w.alloc (.cells (cellsN n fun _ => .int .i64 0) 3)).cell? ⟨b, 0, none⟩ = some (.int .i64 z) := by rw [World.cell?_alloc_past _ _ _ hb]; exact hc
    have HCB := Lib.hid hcb
    clear hg0 hcb hnz hc hmin
    go_enter Try.func42, Try.ntmps42
    go_wp2_with (first
      | (go_at_call 53; ((with_reducible refine (CM _).out.mono ?_); rintro e w1 ⟨rfl, rfl⟩))
      | (with_reducible refine wpList_copy_splice rfl (.tmp 31) (.tmp 32) 22 22 rfl 3 Try.underlying22 hsz (some ⟨w.heap.size, 0, none⟩) (some ⟨b, 0, none⟩) n n 1 1 rfl rfl w.heap.size 0 ((List.range n).map (fillV z 0)) 3 HG0.out [.int .i64 z] HMIN.out ?c1 ?c2 ?c3 w.heap.size w hb0 (Nat.le_refl _) ?_
         case c1 =>
           intro _
           refine ⟨rfl, _, rfl, fun j v hj => ?_⟩
           match j, hj with
           | 0, hj => (simp at hj; subst hj; exact HCB.out)
         case c2 => (simp; omega)
         case c3 => (intro v hv; simp at hv; subst hv; rfl)
         intro w2 hg2 hb2))
    have hg2' := hg2.out
    have hsp := splice_fill z n 0 1 (by omega)
    have e0 : List.replicate 1 (Value.int IntKind.i64 z) = [.int .i64 z] := rfl
    rw [e0] at hsp
    rw [hsp, ← cellsN_list] at hg2'
    have hA2 : Arr w2 w.heap.size 3 n (fillV z 1) := hg2'
    clear hg2 hg2' hsp e0 HG0 HCB hmk CM hb0 HMIN
    go_loopw [8] (fun i wr => ∃ k : Nat, 0 < k ∧ k ≤ n ∧ i = .int .i64 k ∧ Below w.heap.size w wr ∧ Arr wr w.heap.size 3 n (fillV z k)) (fun i _ => n - (intOf i).toNat)
    case atStart => exact ⟨1, by omega, by omega, rfl, hb2, hA2⟩
    case round =>
      obtain ⟨k, hk0, hk, rfl, hbr, hA⟩ := hrel
      have hki : (0 : Int) ≤ (k : Int) := Int.natCast_nonneg _
      by_cases hkl : k < n
      · have hg3 : wr.drew.heap[w.heap.size]? = some (.cells ((List.range n).map (fillV z k)).toArray 3 (0, 0)) := by rw [← cellsN_list]; exact hA
        have hA3 : Arr wr.drew w.heap.size 3 n (fillV z k) := hA
        obtain ⟨d, hd⟩ : ∃ d, Nat.min k (n - k) = d := ⟨_, rfl⟩
        have hd1 : d ≤ k ∧ k + d ≤ n ∧ 0 < d := by have : Nat.min k (n - k) = min k (n - k) := rfl; omega
        have hcs : (List.replicate d (Value.int IntKind.i64 z)).length = Nat.min k (n - k) := by rw [hd]; simp
        have hbD : Below w.heap.size w wr.drew := hbr.drew
        have hwr1 : IntKind.i64.wrap ((k : Int) + (d : Int)) = (k : Int) + (d : Int) := IntWalk.i64_in _ (by omega)
        have HCS := Lib.hid hcs
        have HD1 := Lib.hid hd1
        have HA3 := Lib.hid hA3
        have HSP := Lib.hid (splice_fill z n k d (by omega))
        have hk1 : (k : Int) < (n : Int) := by omega
        clear hd1 hA hA2 hA3 hd hcs
        go_wp2
        have hne : ¬ n = k := by omega
        obtain ⟨cs, hcs⟩ : ∃ cs, cs = List.replicate d (Value.int IntKind.i64 z) := ⟨_, rfl⟩
        have hcl : cs.length = d := by rw [hcs]; simp
        have HCE := Lib.hid hcs
        have HCN : Hid (cs.length = Nat.min k (n - k)) := by rw [hcs]; exact HCS.out
        clear hcs HCS
        go_region_law (refine step_copy_splice rfl (.tmp 41) (.tmp 44) 22 22 rfl 3 Try.underlying22 hsz (some ⟨w.heap.size, k, none⟩) (some ⟨w.heap.size, 0, none⟩) (n - k) (n - k) k n ?h1 ?h2 w.heap.size k ((List.range n).map (fillV z k)) 3 hg3 cs HCN.out ?c1 ?c2 ?c3 w.heap.size w hbD (Nat.le_refl _) ?c4
                       case h1 => go_simp
                       case h2 => go_simp
                       case c1 => exact fun _ => ⟨rfl, _, rfl, fun j v hj => copy_src HA3.out HD1.out.1 hk (by rw [← HCE.out]; exact hj)⟩
                       case c2 => (simp only [List.length_map, List.length_range, hcl]; exact HD1.out.2.1)
                       case c3 => exact fun v hv => by rw [HCE.out] at hv; rw [List.eq_of_mem_replicate hv]; rfl
                       intro w4 hg4 hb4)
        have hg4' := hg4.out
        rw [HCE.out, HSP.out, ← cellsN_list] at hg4'
        have hA4 : Arr w4 w.heap.size 3 n (fillV z (k + d)) := hg4'
        clear hg4 hg4' hg3
        simp only [List.getElem_toArray, List.getElem_cons_succ, List.getElem_cons_zero, Act.put, List.setIfInBounds_toArray, List.set_cons_succ, List.set_cons_zero]
        go_wp2
        go_roundw
        case rel => exact ⟨k + d, by omega, HD1.out.2.1, by go_num, hb4, hA4⟩
        case measure => have := HD1.out; simp [intOf]; omega
      · obtain rfl : n = k := by omega
        clear hkl hk hki hlt hA2
        have hfin : Arr wr w.heap.size 3 n (zv fun _ => z) := hA.congr fun i hi => by simp [fillV, hi]
        go_wp2
        go_ret
        exact ⟨rfl, hfin, hbr⟩

end Go.Proofs.Ytebliaclleplgaa
