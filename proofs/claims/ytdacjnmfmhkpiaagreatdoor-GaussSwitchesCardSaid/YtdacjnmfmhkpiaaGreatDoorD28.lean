import Derived.Test.YtdacjnmfmhkpiaaGreatDoorD12
import Derived.Test.YtdacjnmfmhkpiaaGreatDoorD24
/- Plain mathematics: how many rows have a given length, told by the members; a bijection keeps it. -/
namespace Go.Proofs.YtdacjnmfmhkpiaaGreatDoor

/-- Rows of length k, times k: the members of rows of that length. -/
theorem rows_count (xss : List (List Nat)) (sz : Nat → Nat) (h : ∀ r ∈ xss, ∀ x ∈ r, sz x = r.length) (k : Nat) : xss.countP (fun r => r.length == k) * k = xss.flatten.countP (fun x => sz x == k) := by
  induction xss with
  | nil => simp
  | cons r rs ih =>
    have h1 := ih fun r' hr x hx => h r' (by simp [hr]) x hx
    have h2 : r.countP (fun x => sz x == k) = if r.length == k then r.length else 0 := by
      have e : ∀ x ∈ r, (sz x == k) = (r.length == k) := fun x hx => by rw [h r (by simp) x hx]
      rw [List.countP_congr (q := fun _ => r.length == k) fun x hx => by rw [e x hx]]
      cases r.length == k <;> simp
    rw [List.flatten_cons, List.countP_append, List.countP_cons, Nat.add_mul, h1, h2]
    by_cases e : r.length = k
    · simp [e]; omega
    · have : (r.length == k) = false := by simp [e]
      simp [this]
/-- Two lists of rows whose members correspond, with the lengths of their rows, have as many rows of each length. -/
theorem rows_alike {xss yss : List (List Nat)} {sz sz' : Nat → Nat} {t : Nat → Nat} (h : ∀ r ∈ xss, ∀ x ∈ r, sz x = r.length) (h' : ∀ r ∈ yss, ∀ x ∈ r, sz' x = r.length) (hp : yss.flatten.Perm (xss.flatten.map t))
    (ht : ∀ x ∈ xss.flatten, sz' (t x) = sz x) (hx : ∀ r ∈ xss, r ≠ []) (hy : ∀ r ∈ yss, r ≠ []) (k : Nat) : xss.countP (fun r => r.length == k) = yss.countP (fun r => r.length == k) := by
  by_cases hk : k = 0
  · subst hk
    have z : ∀ zss : List (List Nat), (∀ r ∈ zss, r ≠ []) → zss.countP (fun r => r.length == 0) = 0 := fun zss hz => by
      rw [List.countP_eq_zero]
      intro r hr e
      exact hz r hr (by simpa using e)
    rw [z xss hx, z yss hy]
  · have h1 := rows_count xss sz h k
    have h2 := rows_count yss sz' h' k
    rw [hp.countP_eq, List.countP_map] at h2
    have h3 : List.countP ((fun x => sz' x == k) ∘ t) xss.flatten = xss.flatten.countP (fun x => sz x == k) := List.countP_congr fun x hx => by
      simp [ht x hx]
    rw [h3, ← h1] at h2
    exact (Nat.eq_of_mul_eq_mul_right (by omega) h2).symm
theorem length_alike {xss yss : List (List Nat)} (h : ∀ k, xss.countP (fun r => r.length == k) = yss.countP (fun r => r.length == k)) : xss.length = yss.length := by
  have hp : (xss.map List.length).Perm (yss.map List.length) := List.perm_iff_count.2 fun k => by
    have e : ∀ zss : List (List Nat), (zss.map List.length).count k = zss.countP (fun r => r.length == k) := fun zss => by
      rw [List.count, List.countP_map]; rfl
    rw [e, e, h k]
  have := hp.length_eq
  simpa using this

/-- A bijection of the numbers below N rearranges them. -/
theorem Perm.range {t : Nat → Nat} {N : Nat} (q : Perm t N) : ((List.range N).map t).Perm (List.range N) := by
  refine (List.perm_ext_iff_of_nodup ?_ List.nodup_range).2 fun x => ?_
  · refine List.pairwise_map.2 (List.Pairwise.imp_of_mem (R := (· ≠ ·)) (fun {a b} ha hb hab e => hab ?_) List.nodup_range)
    exact q.inj a b (by simpa using ha) (by simpa using hb) e
  · simp only [List.mem_map, List.mem_range]
    constructor
    · rintro ⟨y, hy, rfl⟩; exact q.lt y hy
    · intro hx
      obtain ⟨r, _, e⟩ := q.returns hx
      exact ⟨it t r x, q.it_lt hx r, e⟩
theorem Perm.onto {t : Nat → Nat} {N : Nat} (q : Perm t N) {x : Nat} (hx : x < N) : ∃ y, y < N ∧ t y = x := by
  obtain ⟨r, _, e⟩ := q.returns hx
  exact ⟨it t r x, q.it_lt hx r, e⟩
theorem filter_map_perm {t : Nat → Nat} {N : Nat} (q : Perm t N) {p p' : Nat → Bool} (hp : ∀ x, x < N → p' (t x) = p x) : ((List.range N).filter p').Perm (((List.range N).filter p).map t) := by
  have h1 := q.range.symm.filter p'
  rw [List.filter_map] at h1
  have h2 : (List.range N).filter (p' ∘ t) = (List.range N).filter p := List.filter_congr fun x hx => hp x (by simpa using hx)
  rw [h2] at h1
  exact h1

theorem it_conj {f g t : Nat → Nat} {N : Nat} (q : Perm f N) (hg : ∀ x, x < N → g (t x) = t (f x)) {x : Nat} (hx : x < N) (i : Nat) : it g i (t x) = t (it f i x) := by
  induction i with
  | zero => rfl
  | succ i ih => show g (it g i (t x)) = t (f (it f i x)); rw [ih, hg _ (q.it_lt hx i)]
theorem per_unique {f : Nat → Nat} {N h k : Nat} (q : Perm f N) (hh : h < N) (h0 : 0 < k) (h1 : it f k h = h) (h2 : ∀ i, 0 < i → i < k → it f i h ≠ h) : per f N h = k := by
  have hp := q.per_spec hh
  have := per_pos f N h
  rcases Nat.lt_trichotomy (per f N h) k with e | e | e
  · exact absurd hp.1 (h2 _ this e)
  · exact e
  · exact absurd h1 (hp.2.2 k h0 e)
theorem per_conj {f g t : Nat → Nat} {N : Nat} (qf : Perm f N) (qg : Perm g N) (qt : Perm t N) (hg : ∀ x, x < N → g (t x) = t (f x)) {x : Nat} (hx : x < N) : per g N (t x) = per f N x := by
  have hp := qf.per_spec hx
  refine per_unique qg (qt.lt x hx) (per_pos f N x) (by rw [it_conj qf hg hx, hp.1]) fun i h0 hi e => ?_
  rw [it_conj qf hg hx] at e
  exact hp.2.2 i h0 hi (qt.inj _ _ (qf.it_lt hx i) hx e)
theorem per_orb {f : Nat → Nat} {N x y : Nat} (q : Perm f N) (hx : x < N) (o : Orb f x y) : per f N y = per f N x := by
  obtain ⟨i, rfl⟩ := o
  have hp := q.per_spec hx
  have back : ∀ k, it f k (it f i x) = it f i (it f k x) := fun k => by rw [← it_add, ← it_add, Nat.add_comm]
  refine per_unique q (q.it_lt hx i) (per_pos f N x) (by rw [back, hp.1]) fun k h0 hk e => ?_
  rw [back] at e
  exact hp.2.2 k h0 hk (q.it_inj (q.it_lt hx k) hx i e)
/-- The cycles as rows of numbers. -/
def cycN (f : Nat → Nat) (N : Nat) (p : Nat → Bool) : List (List Nat) := (reprs f N p).map (cyc f N)
theorem cycN_size {f : Nat → Nat} {N : Nat} {p : Nat → Bool} (q : Perm f N) : ∀ r ∈ cycN f N p, ∀ x ∈ r, per f N x = r.length := by
  intro r hr x hx
  obtain ⟨h, hh, rfl⟩ := List.mem_map.1 hr
  have h1 := (reprs_mem.1 hh).1
  rw [per_orb q h1 ((q.mem_cyc h1 x).1 hx)]
  simp [cyc]
theorem cycN_ne {f : Nat → Nat} {N : Nat} {p : Nat → Bool} : ∀ r ∈ cycN f N p, r ≠ [] := by
  intro r hr e
  obtain ⟨h, _, rfl⟩ := List.mem_map.1 hr
  have := per_pos f N h
  have hl := congrArg List.length e
  simp [cyc] at hl
  omega
theorem cycN_lens (f : Nat → Nat) (N : Nat) (p : Nat → Bool) : (cycN f N p).map List.length = (cycL f N p N).map List.length := by
  rw [cycL_reprs]; unfold cycN
  rw [List.map_map, List.map_map]
  exact List.map_congr_left fun r _ => by simp [cyc, itl]
/-- Conjugate permutations have as many cycles of each length. -/
theorem cycN_conj {f g t : Nat → Nat} {N : Nat} {p p' : Nat → Bool} (qf : Perm f N) (qg : Perm g N) (qt : Perm t N) (hg : ∀ x, x < N → g (t x) = t (f x)) (hp : ∀ x, x < N → p' (t x) = p x) (cf : ClosedN f N p) (cg : ClosedN g N p') (k : Nat) :
    (cycN f N p).countP (fun r => r.length == k) = (cycN g N p').countP (fun r => r.length == k) :=
  rows_alike (t := t) (cycN_size qf) (cycN_size qg) ((flatN_perm qg cg).trans ((filter_map_perm qt hp).trans ((flatN_perm qf cf).symm.map t)))
    (fun _ hx => per_conj qf qg qt hg ((mem_flatN qf cf).1 hx).1) cycN_ne cycN_ne k
theorem reprs_conj {f g t : Nat → Nat} {N : Nat} {p p' : Nat → Bool} (qf : Perm f N) (qg : Perm g N) (qt : Perm t N) (hg : ∀ x, x < N → g (t x) = t (f x)) (hp : ∀ x, x < N → p' (t x) = p x) (cf : ClosedN f N p) (cg : ClosedN g N p') :
    (reprs f N p).length = (reprs g N p').length := by
  have := length_alike (cycN_conj qf qg qt hg hp cf cg)
  simpa [cycN] using this

/-- How many rows have the length k. -/
def many (xss : List (List Int)) (k : Nat) : Nat := xss.countP (fun r => r.length == k)
theorem many_lens {xss : List (List Int)} {yss : List (List Nat)} (h : yss.map List.length = xss.map List.length) (k : Nat) : many xss k = yss.countP (fun r => r.length == k) := by
  have e1 : many xss k = (xss.map List.length).countP (fun n => n == k) := by rw [List.countP_map]; rfl
  have e2 : yss.countP (fun r => r.length == k) = (yss.map List.length).countP (fun n => n == k) := by rw [List.countP_map]; rfl
  rw [e1, e2, h]
theorem many_conj {f g t : Nat → Nat} {N : Nat} {p p' : Nat → Bool} (qf : Perm f N) (qg : Perm g N) (qt : Perm t N) (hg : ∀ x, x < N → g (t x) = t (f x)) (hp : ∀ x, x < N → p' (t x) = p x) (cf : ClosedN f N p) (cg : ClosedN g N p') (k : Nat) :
    many (cycL f N p N) k = many (cycL g N p' N) k := by
  rw [many_lens (cycN_lens f N p) k, many_lens (cycN_lens g N p') k]
  exact cycN_conj qf qg qt hg hp cf cg k

/-- The components as rows of numbers. -/
def membN (F : Nat → Nat) (n l : Nat) : List Nat := (List.range n).filter (fun b => F b == l)
def graphN (F : Nat → Nat) (n : Nat) : List (List Nat) := (roots F n).map (membN F n)
theorem graphN_lens (F : Nat → Nat) (n : Nat) : (graphN F n).map List.length = (graphL F n).map List.length := by
  unfold graphN graphL
  rw [List.map_map, List.map_map]
  exact List.map_congr_left fun r _ => by simp [membN, memb]
theorem mem_membN {F : Nat → Nat} {n l x : Nat} : x ∈ membN F n l ↔ x < n ∧ F x = l := by unfold membN; simp [List.mem_filter]
theorem graphN_flat {F : Nat → Nat} {n : Nat} (hle : ∀ b, F b ≤ b) (hid : ∀ b, F (F b) = F b) : (graphN F n).flatten.Perm (List.range n) := by
  refine (List.perm_ext_iff_of_nodup ?_ List.nodup_range).2 fun x => ?_
  · refine List.pairwise_flatten.2 ⟨fun l hl => ?_, ?_⟩
    · obtain ⟨r, _, rfl⟩ := List.mem_map.1 hl
      exact List.Pairwise.filter _ List.nodup_range
    · refine List.pairwise_map.2 (List.Pairwise.imp (R := (· ≠ ·)) (fun {a b} hab x hx y hy e => hab ?_) (roots_nodup F n))
      rw [← (mem_membN.1 hx).2, ← (mem_membN.1 hy).2, e]
  · unfold graphN
    simp only [List.mem_flatten, List.mem_map, List.mem_range]
    constructor
    · rintro ⟨l, ⟨r, _, rfl⟩, hx⟩
      exact (mem_membN.1 hx).1
    · intro hx
      refine ⟨_, ⟨F x, ?_, rfl⟩, mem_membN.2 ⟨hx, rfl⟩⟩
      unfold roots
      rw [List.mem_filter, List.mem_range]
      exact ⟨by have := hle x; omega, by simp [hid]⟩
theorem many_graph {F G t : Nat → Nat} {n : Nat} (hF : ∀ b, F b ≤ b) (hF2 : ∀ b, F (F b) = F b) (hG : ∀ b, G b ≤ b) (hG2 : ∀ b, G (G b) = G b) (qt : Perm t n) (h : ∀ x y, x < n → y < n → (F x = F y ↔ G (t x) = G (t y))) (k : Nat) :
    many (graphL F n) k = many (graphL G n) k := by
  rw [many_lens (graphN_lens F n) k, many_lens (graphN_lens G n) k]
  have sz : ∀ (F : Nat → Nat), ∀ r ∈ graphN F n, ∀ x ∈ r, (membN F n (F x)).length = r.length := fun F r hr x hx => by
    obtain ⟨l, _, rfl⟩ := List.mem_map.1 hr
    rw [(mem_membN.1 hx).2]
  have ne : ∀ (F : Nat → Nat), ∀ r ∈ graphN F n, r ≠ [] := fun F r hr e => by
    obtain ⟨l, hl, rfl⟩ := List.mem_map.1 hr
    obtain ⟨h1, h2⟩ := roots_lt hl
    have : l ∈ membN F n l := mem_membN.2 ⟨h1, h2⟩
    rw [e] at this; cases this
  refine rows_alike (t := t) (sz := fun x => (membN F n (F x)).length) (sz' := fun x => (membN G n (G x)).length) (sz F) (sz G) ((graphN_flat hG hG2).trans (qt.range.symm.trans ((graphN_flat hF hF2).symm.map t))) (fun x hx => ?_) (ne F) (ne G) k
  have hxn : x < n := by have := (graphN_flat hF hF2).mem_iff.1 hx; simpa using this
  show (membN G n (G (t x))).length = (membN F n (F x)).length
  have h1 := filter_map_perm qt (p := fun b => F b == F x) (p' := fun b => G b == G (t x)) fun y hy => by
    rw [Bool.eq_iff_iff]
    simp only [beq_iff_eq]
    exact (h y x hy hxn).symm
  have := h1.length_eq
  rw [List.length_map] at this
  exact this

end Go.Proofs.YtdacjnmfmhkpiaaGreatDoor

/- Plain mathematics: an order of the crossings, its inverse, the lists of the renumbered diagram. -/
namespace Go.Proofs.YtdacjnmfmhkpiaaGreatDoor

def ordN (o : List Int) : Nat → Nat := fun i => (o.getD i 0).toNat
/-- The first k numbers lie in the range and differ. -/
structure OrdK (o : List Int) (n k : Nat) : Prop where
  rg : ∀ i, i < k → 0 ≤ o.getD i 0 ∧ o.getD i 0 < n
  ne : ∀ i j, i < j → j < k → o.getD i 0 ≠ o.getD j 0
def IsOrd (o : List Int) (n : Nat) : Prop := o.length = n ∧ OrdK o n n
theorem OrdK.zero (o : List Int) (n : Nat) : OrdK o n 0 := ⟨fun i hi => absurd hi (by omega), fun i j _ hj => absurd hj (by omega)⟩
theorem OrdK.succ {o : List Int} {n k : Nat} (h : OrdK o n k) (h1 : 0 ≤ o.getD k 0) (h2 : o.getD k 0 < n) (h3 : ∀ i, i < k → o.getD i 0 ≠ o.getD k 0) : OrdK o n (k + 1) :=
  ⟨fun i hi => by
    by_cases e : i = k
    · subst e; exact ⟨h1, h2⟩
    · exact h.rg i (by omega), fun i j hij hj => by
    by_cases e : j = k
    · subst e; exact h3 i hij
    · exact h.ne i j hij (by omega)⟩
theorem ordN_cast {o : List Int} {n k i : Nat} (h : OrdK o n k) (hi : i < k) : (ordN o i : Int) = o.getD i 0 ∧ ordN o i < n := by
  have := h.rg i hi
  unfold ordN; omega
theorem IsOrd.perm {o : List Int} {n : Nat} (h : IsOrd o n) : Perm (ordN o) n :=
  ⟨fun i hi => (ordN_cast h.2 hi).2, fun i j hi hj e => by
    have h1 := (ordN_cast h.2 hi).1
    have h2 := (ordN_cast h.2 hj).1
    rw [e] at h1
    rcases Nat.lt_trichotomy i j with k | k | k
    · exact absurd (h1.symm.trans h2) (h.2.ne i j k hj)
    · exact k
    · exact absurd (h2.symm.trans h1) (h.2.ne j i k hi)⟩

/-- The place of c among the first k. -/
def plcK (o : List Int) : Nat → Nat → Int
  | 0 => fun _ => -1
  | k + 1 => fun c => if c = ordN o k then (k : Int) else plcK o k c
theorem plcK_in {o : List Int} {n k i : Nat} (h : OrdK o n k) (hi : i < k) : plcK o k (ordN o i) = i := by
  induction k with
  | zero => omega
  | succ k ih =>
    show (if ordN o i = ordN o k then (k : Int) else plcK o k (ordN o i)) = i
    by_cases e : i = k
    · subst e; simp
    · have h1 := (ordN_cast h (i := i) (by omega)).1
      have h2 := (ordN_cast h (i := k) (by omega)).1
      have h3 := h.ne i k (by omega) (by omega)
      rw [if_neg (by omega)]
      exact ih ⟨fun j hj => h.rg j (by omega), fun a b hab hb => h.ne a b hab (by omega)⟩ (by omega)
theorem plcK_out {o : List Int} {k c : Nat} (h : ∀ i, i < k → ordN o i ≠ c) : plcK o k c = -1 := by
  induction k with
  | zero => rfl
  | succ k ih =>
    show (if c = ordN o k then (k : Int) else plcK o k c) = -1
    rw [if_neg fun e => h k (by omega) e.symm]
    exact ih fun i hi => h i (by omega)
theorem plcK_cases (o : List Int) (k c : Nat) : plcK o k c = -1 ∧ (∀ i, i < k → ordN o i ≠ c) ∨ ∃ i, i < k ∧ plcK o k c = i ∧ ordN o i = c := by
  induction k with
  | zero => exact .inl ⟨rfl, fun i hi => absurd hi (by omega)⟩
  | succ k ih =>
    by_cases e : c = ordN o k
    · refine .inr ⟨k, by omega, ?_, e.symm⟩
      show (if c = ordN o k then (k : Int) else plcK o k c) = k
      rw [if_pos e]
    · have e2 : plcK o (k + 1) c = plcK o k c := by
        show (if c = ordN o k then (k : Int) else plcK o k c) = plcK o k c
        rw [if_neg e]
      rw [e2]
      rcases ih with ⟨h1, h2⟩ | ⟨i, h1, h2, h3⟩
      · refine .inl ⟨h1, fun i hi => ?_⟩
        by_cases ei : i = k
        · subst ei; exact fun q => e q.symm
        · exact h2 i (by omega)
      · exact .inr ⟨i, by omega, h2, h3⟩

/-- The inverse. -/
def invN (o : List Int) (n c : Nat) : Nat := (plcK o n c).toNat
theorem invN_ord {o : List Int} {n i : Nat} (h : IsOrd o n) (hi : i < n) : invN o n (ordN o i) = i := by
  unfold invN; rw [plcK_in h.2 hi]; simp
theorem ord_invN {o : List Int} {n c : Nat} (h : IsOrd o n) (hc : c < n) : ordN o (invN o n c) = c ∧ invN o n c < n := by
  obtain ⟨i, hi, e⟩ := h.perm.onto hc
  rw [← e, invN_ord h hi]; exact ⟨rfl, hi⟩
theorem invN_cast {o : List Int} {n c : Nat} (h : IsOrd o n) (hc : c < n) : (invN o n c : Int) = plcK o n c := by
  obtain ⟨i, hi, e⟩ := h.perm.onto hc
  rw [← e, invN_ord h hi, plcK_in h.2 hi]
theorem invN_perm {o : List Int} {n : Nat} (h : IsOrd o n) : Perm (invN o n) n :=
  ⟨fun c hc => (ord_invN h hc).2, fun c d hc hd e => by rw [← (ord_invN h hc).1, ← (ord_invN h hd).1, e]⟩

/-- A list of n numbers that holds each below n is an order. -/
theorem isOrd_of_all {o : List Int} {n : Nat} (hl : o.length = n) (h : ∀ i, i < n → (i : Int) ∈ o) : IsOrd o n := by
  have hex : ∀ i, i < n → ∃ j, j < n ∧ o.getD j 0 = i := fun i hi => by
    obtain ⟨j, hj, e⟩ := List.getElem_of_mem (h i hi)
    exact ⟨j, by omega, by simp [List.getD, hj, e]⟩
  obtain ⟨t, ht⟩ : ∃ t : Nat → Nat, ∀ i, i < n → t i < n ∧ o.getD (t i) 0 = i := by
    refine ⟨fun i => if hi : i < n then (hex i hi).choose else 0, fun i hi => ?_⟩
    simp only [hi, dif_pos]
    exact (hex i hi).choose_spec
  have q : Perm t n := ⟨fun i hi => (ht i hi).1, fun i j hi hj e => by
    have h1 := (ht i hi).2
    have h2 := (ht j hj).2
    rw [e] at h1; omega⟩
  refine ⟨hl, ⟨fun j hj => ?_, fun i j hij hj e => ?_⟩⟩
  · obtain ⟨i, hi, e⟩ := q.onto hj
    have := (ht i hi).2
    rw [e] at this; omega
  · obtain ⟨a, ha, ea⟩ := q.onto (show i < n by omega)
    obtain ⟨b, hb, eb⟩ := q.onto hj
    have h1 := (ht a ha).2
    have h2 := (ht b hb).2
    rw [ea] at h1; rw [eb] at h2
    have : a = b := by omega
    rw [this] at ea; omega
theorem IsOrd.all {o : List Int} {n : Nat} (h : IsOrd o n) {i : Nat} (hi : i < n) : (i : Int) ∈ o := by
  obtain ⟨j, hj, e⟩ := h.perm.onto hi
  have h1 := (ordN_cast h.2 hj).1
  rw [e] at h1
  have hjl : j < o.length := by rw [h.1]; exact hj
  rw [h1]; exact getD_mem_int hjl

/-- The half-edge that the new half-edge x was. -/
def wasH (o : List Int) (x : Nat) : Nat := 4 * ordN o (x / 4) + x % 4
/-- The new half-edge that x becomes. -/
def newH (o : List Int) (n x : Nat) : Nat := 4 * invN o n (x / 4) + x % 4
def renS (s o : List Int) (n : Nat) : List Int := (List.range n).map fun i => s.getD (ordN o i) 0
def renM (m : Nat → Nat) (o : List Int) (n : Nat) : List Int := (List.range (4 * n)).map fun x => (newH o n (m (wasH o x)) : Int)
theorem renS_length (s o : List Int) (n : Nat) : (renS s o n).length = n := by simp [renS]
theorem renM_length (m : Nat → Nat) (o : List Int) (n : Nat) : (renM m o n).length = 4 * n := by simp [renM]
theorem renS_get {s o : List Int} {n i : Nat} (hi : i < n) : (renS s o n).getD i 0 = s.getD (ordN o i) 0 := by simp [renS, List.getD, hi]
theorem renM_get {m : Nat → Nat} {o : List Int} {n x : Nat} (hx : x < 4 * n) : (renM m o n).getD x 0 = (newH o n (m (wasH o x)) : Int) := by simp [renM, List.getD, hx]
theorem wasH_lt {o : List Int} {n x : Nat} (h : IsOrd o n) (hx : x < 4 * n) : wasH o x < 4 * n := by
  have := (ordN_cast h.2 (i := x / 4) (by omega)).2
  unfold wasH; omega
theorem newH_lt {o : List Int} {n x : Nat} (h : IsOrd o n) (hx : x < 4 * n) : newH o n x < 4 * n := by
  have := (ord_invN h (c := x / 4) (by omega)).2
  unfold newH; omega
theorem newH_was {o : List Int} {n x : Nat} (h : IsOrd o n) (hx : x < 4 * n) : newH o n (wasH o x) = x := by
  have h1 : wasH o x / 4 = ordN o (x / 4) := by unfold wasH; omega
  have h2 : wasH o x % 4 = x % 4 := by unfold wasH; omega
  unfold newH
  rw [h1, h2, invN_ord h (by omega)]; omega
theorem wasH_new {o : List Int} {n x : Nat} (h : IsOrd o n) (hx : x < 4 * n) : wasH o (newH o n x) = x := by
  have h1 : newH o n x / 4 = invN o n (x / 4) := by unfold newH; omega
  have h2 : newH o n x % 4 = x % 4 := by unfold newH; omega
  unfold wasH
  rw [h1, h2, (ord_invN h (c := x / 4) (by omega)).1]; omega
theorem newH_perm {o : List Int} {n : Nat} (h : IsOrd o n) : Perm (newH o n) (4 * n) :=
  ⟨fun x hx => newH_lt h hx, fun x y hx hy e => by rw [← wasH_new h hx, ← wasH_new h hy, e]⟩

end Go.Proofs.YtdacjnmfmhkpiaaGreatDoor

/- Plain mathematics: a renumbered diagram is drawn on spheres as the given one is. -/
namespace Go.Proofs.YtdacjnmfmhkpiaaGreatDoor

theorem conn_conj {m m' T t : Nat → Nat} {N : Nat} (hT : ∀ x, x < N → T x < N ∧ m' (T x) = T (m x) ∧ T x / 4 = t (x / 4)) (hm : ∀ x, x < N → m x < N) {a b : Nat} (h : Conn m N a b) : Conn m' N (t a) (t b) := by
  induction h with
  | refl => exact .refl _
  | step x hx _ ih =>
    obtain ⟨h1, h2, h3⟩ := hT x hx
    have h4 := (hT (m x) (hm x hx)).2.2
    rw [← h3] at ih
    have := Conn.step (m := m') (T x) h1 ih
    rw [h2, h4] at this
    exact this
  | back x hx _ ih =>
    obtain ⟨h1, h2, h3⟩ := hT x hx
    have h4 := (hT (m x) (hm x hx)).2.2
    rw [← h4, ← h2] at ih
    have := Conn.back (m := m') (T x) h1 ih
    rw [h3] at this
    exact this
theorem IsLab.iff {m : Nat → Nat} {N n : Nat} {F : Nat → Nat} (h : IsLab m N n F) {a b : Nat} (ha : a < n) (hb : b < n) : F a = F b ↔ Conn m N a b :=
  ⟨fun e => by
    have h1 := (h.1 a ha).2
    rw [e] at h1
    exact h1.trans (h.1 b hb).2.symm, h.conn⟩
theorem sel_closed {f : Nat → Nat} {N : Nat} {p : Nat → Bool} (q : Perm f N) (c : ClosedN f N p) {h : Nat} (hh : h < N) : sel f N p h = (fst f N h && p h) := by
  rw [Bool.eq_iff_iff, Bool.and_eq_true, q.sel_iff p hh, q.fst_iff hh]
  constructor
  · rintro ⟨h1, h2⟩
    refine ⟨fun h' hlt o => h2 h' hlt ?_ o, h1⟩
    obtain ⟨i, e⟩ := q.orb_symm (by omega) o
    rw [← e]; exact c.it q hh h1 i
  · rintro ⟨h1, h2⟩
    exact ⟨h2, fun h' hlt _ o => h1 h' hlt o⟩
theorem cntF_reprs {f F : Nat → Nat} {N l : Nat} (q : Perm f N) (c : ClosedN f N (fun h => F (h / 4) == l)) : cntF F f N N l = (reprs f N (fun h => F (h / 4) == l)).length := by
  unfold cntF reprs
  rw [List.countP_eq_length_filter]
  congr 1
  exact (List.filter_congr fun x hx => by rw [sel_closed q c (by simpa using hx)]).symm

section
variable {o : List Int} {n : Nat} {m m' : Nat → Nat}
/-- The mates of the renumbered diagram. -/
structure Ren (o : List Int) (n : Nat) (m m' : Nat → Nat) : Prop where
  ord : IsOrd o n
  inv : Invol m (4 * n)
  eq : ∀ x, x < 4 * n → m' x = newH o n (m (wasH o x))
theorem Ren.at (r : Ren o n m m') {x : Nat} (hx : x < 4 * n) : m' (newH o n x) = newH o n (m x) := by rw [r.eq _ (newH_lt r.ord hx), wasH_new r.ord hx]
theorem Ren.inv' (r : Ren o n m m') : Invol m' (4 * n) :=
  ⟨fun x hx => by rw [r.eq x hx]; exact newH_lt r.ord (r.inv.lt _ (wasH_lt r.ord hx)), fun x hx => by
    have h1 := r.inv.lt _ (wasH_lt r.ord hx)
    rw [r.eq x hx, r.at h1, r.inv.inv _ (wasH_lt r.ord hx), newH_was r.ord hx]⟩
theorem newH_trn (s x : Nat) : newH o n (trn x s) = trn (newH o n x) s := by
  have h1 : trn x s / 4 = x / 4 := trn_div x s
  have h2 : trn x s % 4 = (x % 4 + s) % 4 := by unfold trn; omega
  have h3 : newH o n x % 4 = x % 4 := by unfold newH; omega
  unfold newH at *
  rw [h1, h2]
  unfold trn
  rw [h3]; omega
theorem Ren.step (r : Ren o n m m') (s : Nat) {x : Nat} (hx : x < 4 * n) : trn (m' (newH o n x)) s = newH o n (trn (m x) s) := by rw [r.at hx, newH_trn]
theorem Ren.lab (r : Ren o n m m') {a b : Nat} (ha : a < n) (hb : b < n) : ufLab m (4 * n) a = ufLab m (4 * n) b ↔ ufLab m' (4 * n) (invN o n a) = ufLab m' (4 * n) (invN o n b) := by
  have qa := (ord_invN r.ord ha)
  have qb := (ord_invN r.ord hb)
  rw [(ufLab_isLab m (4 * n) n).iff ha hb, (ufLab_isLab m' (4 * n) n).iff qa.2 qb.2]
  constructor
  · exact conn_conj (T := newH o n) (fun x hx => ⟨newH_lt r.ord hx, r.at hx, by unfold newH; omega⟩) (fun x hx => r.inv.lt x hx)
  · intro h
    have := conn_conj (m := m') (m' := m) (T := wasH o) (t := ordN o) (fun x hx => ⟨wasH_lt r.ord hx, by
      rw [r.eq x hx, wasH_new r.ord (r.inv.lt _ (wasH_lt r.ord hx))], by unfold wasH; omega⟩) (fun x hx => r.inv'.lt x hx) h
    rw [qa.1, qb.1] at this
    exact this
theorem closed_lab {m : Nat → Nat} {n : Nat} (s l : Nat) : ClosedN (fun x => trn (m x) s) (4 * n) (fun h => ufLab m (4 * n) (h / 4) == l) := fun h hh e => by
  have := (ufLab_isLab m (4 * n) n).2 h hh
  simp only [trn_div, ← this]
  exact e
theorem Ren.sph (r : Ren o n m m') (h : sphB (ufLab m (4 * n)) (fun x => trn (m x) 3) (4 * n) n = true) : sphB (ufLab m' (4 * n)) (fun x => trn (m' x) 3) (4 * n) n = true := by
  rw [sphB_iff] at h ⊢
  intro c hc
  obtain ⟨a, ha, rfl⟩ := (invN_perm r.ord).onto hc
  have h0 := h a ha
  rw [cntF_reprs (r.inv.perm 3) (closed_lab 3 _)] at h0
  rw [cntF_reprs (r.inv'.perm 3) (closed_lab 3 _)]
  have e1 := reprs_conj (r.inv.perm 3) (r.inv'.perm 3) (newH_perm r.ord) (fun x hx => r.step 3 hx) (p := fun h => ufLab m (4 * n) (h / 4) == ufLab m (4 * n) a) (p' := fun h => ufLab m' (4 * n) (h / 4) == ufLab m' (4 * n) (invN o n a)) (fun x hx => by
    have e : newH o n x / 4 = invN o n (x / 4) := by unfold newH; omega
    rw [Bool.eq_iff_iff, e]
    simp only [beq_iff_eq]
    exact (r.lab (by omega) ha).symm) (closed_lab 3 _) (closed_lab 3 _)
  have e2 : cntV (ufLab m' (4 * n)) n (ufLab m' (4 * n) (invN o n a)) = cntV (ufLab m (4 * n)) n (ufLab m (4 * n) a) := by
    unfold cntV
    rw [List.countP_eq_length_filter, List.countP_eq_length_filter]
    have := (filter_map_perm (invN_perm r.ord) (p := fun c => ufLab m (4 * n) c == ufLab m (4 * n) a) (p' := fun c => ufLab m' (4 * n) c == ufLab m' (4 * n) (invN o n a)) fun x hx => by
      rw [Bool.eq_iff_iff]
      simp only [beq_iff_eq]
      exact (r.lab hx ha).symm).length_eq
    rw [List.length_map] at this
    exact this
  rw [← e1, e2]; exact h0
end

end Go.Proofs.YtdacjnmfmhkpiaaGreatDoor

/- Half-edges turned about at their crossings: the mates' genus stays; the code with one crossing switched, the code with all sequences reversed; plain. -/
namespace Go.Proofs.YtdacjnmfmhkpiaaGreatDoor
open Go.RowKit

/-- Every half-edge turned by as many quarters as its crossing says. -/
def spin (k : Nat → Nat) (h : Nat) : Nat := trn h (k (h / 4))
theorem spin_div (k : Nat → Nat) (h : Nat) : spin k h / 4 = h / 4 := trn_div _ _
theorem spin_lt {k : Nat → Nat} {n h : Nat} (hh : h < 4 * n) : spin k h < 4 * n := trn_lt hh
theorem spin_trn (k : Nat → Nat) (h s : Nat) : trn (spin k h) s = spin k (trn h s) := by
  unfold spin
  rw [trn_div]
  generalize k (h / 4) = a
  unfold trn; omega
theorem spin_perm (k : Nat → Nat) (n : Nat) : Perm (spin k) (4 * n) :=
  ⟨fun h hh => spin_lt hh, fun h g _ _ e => by
    have e2 : h / 4 = g / 4 := by rw [← spin_div k h, ← spin_div k g, e]
    unfold spin at e
    rw [e2] at e
    exact trn_inj e⟩
theorem cFst_reprs (f : Nat → Nat) (N : Nat) : cFst f N N = (reprs f N (fun _ => true)).length := by
  unfold cFst reprs
  rw [List.filter_congr fun x _ => show fst f N x = sel f N (fun _ => true) x by simp [sel, fst]]
theorem rootsN_like {F G : Nat → Nat} {n : Nat} (h : ∀ c, c < n → F c = G c) : rootsN F n = rootsN G n := by
  unfold rootsN
  exact List.countP_congr fun c hc => by rw [h c (by simpa using hc)]
theorem spin_conn {m m' : Nat → Nat} {n : Nat} {k : Nat → Nat} (i : Invol m (4 * n)) (hm : ∀ x, x < 4 * n → m' (spin k x) = spin k (m x)) {a b : Nat} (h : Conn m (4 * n) a b) : Conn m' (4 * n) a b :=
  conn_conj (T := spin k) (t := fun c => c) (fun x hx => ⟨spin_lt hx, hm x hx, spin_div k x⟩) (fun x hx => i.lt x hx) h
/-- Mates that are turned about at the crossings have the same genus. -/
theorem spin_genus {m m' : Nat → Nat} {n : Nat} {k : Nat → Nat} (i : Invol m (4 * n)) (i' : Invol m' (4 * n)) (hm : ∀ x, x < 4 * n → m' (spin k x) = spin k (m x)) : genM m' n = genM m n := by
  have h1 : cFst (ff m') (4 * n) (4 * n) = cFst (ff m) (4 * n) (4 * n) := by
    rw [cFst_reprs, cFst_reprs]
    exact (reprs_conj (f := ff m) (g := ff m') (t := spin k) (i.perm 3) (i'.perm 3) (spin_perm k n) (fun x hx => by unfold ff; rw [hm x hx, spin_trn]) (fun _ _ => rfl) (fun _ _ _ => rfl) (fun _ _ _ => rfl)).symm
  have hl : IsLab m' (4 * n) n (ufLab m (4 * n)) := by
    have h := ufLab_isLab m (4 * n) n
    refine ⟨fun c hc => ⟨(h.1 c hc).1, spin_conn i hm (h.1 c hc).2⟩, fun y hy => ?_⟩
    obtain ⟨x, hx, rfl⟩ := (spin_perm k n).onto hy
    rw [hm x hx, spin_div, spin_div]
    exact h.2 x hx
  have h2 : nRoots (ufAt m' (4 * n)) n = nRoots (ufAt m (4 * n)) n := by
    rw [nRoots_rootsN _ (ufAt_below _ _), nRoots_rootsN _ (ufAt_below _ _)]
    exact rootsN_like fun c hc => ((ufLab_isLab m' (4 * n) n).unique hl c hc)
  unfold genM
  rw [h1, h2]
/-- Where the pairs are turned about, the mates are. -/
theorem mates_spin {s s' : List Int} {vss vss' : List (List Vis)} {n : Nat} {k : Nat → Nat} (hv : visB vss n = true) (hv' : visB vss' n = true)
    (hp : ∀ p ∈ vss.flatMap (pairsRow s), (spin k p.1, spin k p.2) ∈ vss'.flatMap (pairsRow s') ∨ (spin k p.2, spin k p.1) ∈ vss'.flatMap (pairsRow s')) (h : Nat) (hh : h < 4 * n) :
    mAll s' vss' vss'.length (spin k h) = spin k (mAll s vss vss.length h) := by
  obtain ⟨p, hp1, e⟩ := mem_keys ((all_keys s hv).2.2 h hh)
  obtain ⟨q1, q2⟩ := mAll_pair s hv hp1
  rcases hp p hp1 with hp2 | hp2
  · obtain ⟨r1, r2⟩ := mAll_pair s' hv' hp2
    rcases e with rfl | rfl
    · rw [q1]; exact r1
    · rw [q2]; exact r2
  · obtain ⟨r1, r2⟩ := mAll_pair s' hv' hp2
    rcases e with rfl | rfl
    · rw [q1]; exact r2
    · rw [q2]; exact r1
theorem genC_spin {s s' : List Int} {vss vss' : List (List Vis)} {k : Nat → Nat} (hl : s'.length = s.length) (hv : visB vss s.length = true) (hv' : visB vss' s.length = true)
    (hp : ∀ p ∈ vss.flatMap (pairsRow s), (spin k p.1, spin k p.2) ∈ vss'.flatMap (pairsRow s') ∨ (spin k p.2, spin k p.1) ∈ vss'.flatMap (pairsRow s')) : genC vss' s' = genC vss s := by
  unfold genC
  rw [hl]
  exact spin_genus (mAll_invol s hv) (mAll_invol s' hv') fun x hx => mates_spin hv hv' hp x hx

-- one crossing switched
def swV (x : Nat) (v : Vis) : Vis := (v.1, v.2 != (v.1 == (x : Int)))
def swS (s : List Int) (x : Nat) : List Int := s.set x (-(s.getD x 0))
def swC (x : Nat) (vss : List (List Vis)) : List (List Vis) := vss.map fun l => l.map (swV x)
def swK (s : List Int) (x c : Nat) : Nat := if c = x then (if s.getD x 0 = 1 then 1 else 3) else 0
theorem swS_length (s : List Int) (x : Nat) : (swS s x).length = s.length := by simp [swS]
theorem swS_get {s : List Int} {x c : Nat} (hc : c < s.length) : (swS s x).getD c 0 = if c = x then -(s.getD x 0) else s.getD c 0 := by
  by_cases e : c = x
  · subst e; simp [swS, List.getD, hc]
  · have e' : ¬ x = c := fun h => e h.symm
    simp [swS, List.getD, e, e']
theorem swV_inj (x : Nat) {u v : Vis} (h : swV x u = swV x v) : u = v := by
  obtain ⟨uc, uo⟩ := u
  obtain ⟨vc, vo⟩ := v
  unfold swV at h
  injection h with h1 h2
  simp only at h1 h2
  subst h1
  refine Prod.ext rfl ?_
  revert h2
  cases uo <;> cases vo <;> cases (uc == (x : Int)) <;> simp
theorem sw_sgns {s : List Int} {x : Nat} (hs : sgnsB s = true) : sgnsB (swS s x) = true := by
  refine (sgnsB_iff _).2 fun j hj => ?_
  rw [swS_length] at hj
  rw [swS_get hj]
  have h := (sgnsB_iff _).1 hs
  split
  · rename_i e
    subst e
    have := h j hj
    unfold sgB at this ⊢
    simp only [Bool.or_eq_true, beq_iff_eq] at this ⊢
    omega
  · exact h j hj
theorem sgn_cases {s : List Int} (hs : sgnsB s = true) {c : Nat} (hc : c < s.length) : s.getD c 0 = 1 ∨ s.getD c 0 = -1 := by
  have := (sgnsB_iff _).1 hs c hc
  unfold sgB at this
  simpa using this
theorem sw_out {s : List Int} {x : Nat} (hs : sgnsB s = true) {v : Vis} (h0 : 0 ≤ v.1) (h1 : v.1 < s.length) : outV (swS s x) (swV x v) = spin (swK s x) (outV s v) ∧ inV (swS s x) (swV x v) = spin (swK s x) (inV s v) := by
  obtain ⟨vc, vo⟩ := v
  obtain ⟨c, rfl⟩ := Int.eq_ofNat_of_zero_le h0
  simp only at h1
  have hc : c < s.length := by omega
  have hg := sgn_cases hs hc
  unfold outV inV swV
  simp only [Int.toNat_natCast]
  by_cases e : c = x
  · subst e
    have eb : ((c : Int) == (c : Int)) = true := by simp
    have hk : ∀ r, r < 4 → swK s c ((4 * c + r) / 4) = if s.getD c 0 = 1 then 1 else 3 := fun r hr => by unfold swK; rw [show (4 * c + r) / 4 = c by omega]; simp
    have hk0 : swK s c c = if s.getD c 0 = 1 then 1 else 3 := by unfold swK; simp
    rw [eb]
    unfold outN inN
    rw [swS_get hc, if_pos rfl]
    rcases hg with g | g <;> rw [g] at hk hk0 ⊢ <;> cases vo <;> simp [spin, hk, hk0, trn] <;> omega
  · have eb : ((c : Int) == (x : Int)) = false := by simp; omega
    have hk : ∀ r, r < 4 → swK s x ((4 * c + r) / 4) = 0 := fun r hr => by unfold swK; rw [show (4 * c + r) / 4 = c by omega, if_neg e]
    have hk0 : swK s x c = 0 := by unfold swK; rw [if_neg e]
    rw [eb]
    unfold outN inN
    rw [swS_get hc, if_neg e]
    rcases hg with g | g <;> rw [g] <;> cases vo <;> simp [spin, hk, hk0, trn] <;> omega
theorem sw_flat (x : Nat) (vss : List (List Vis)) : (swC x vss).flatten = vss.flatten.map (swV x) := by
  unfold swC; rw [List.map_flatten]
theorem sw_visB {vss : List (List Vis)} {n : Nat} (x : Nat) (hv : visB vss n = true) : visB (swC x vss) n = true := by
  obtain ⟨h1, ⟨h2, h3⟩, h4⟩ := (visB_iff _ _).1 hv
  refine (visB_iff _ _).2 ⟨fun l hl => ?_, ⟨?_, ?_⟩, ?_⟩
  · unfold swC at hl
    obtain ⟨r, hr, rfl⟩ := List.mem_map.1 hl
    have := h1 r hr
    simpa using this
  · rw [sw_flat]
    exact List.pairwise_map.2 (h2.imp fun hab e => hab (swV_inj x e))
  · rw [sw_flat]
    intro v hv
    obtain ⟨u, hu, rfl⟩ := List.mem_map.1 hv
    exact h3 u hu
  · rw [sw_flat, List.length_map]; exact h4
theorem pair_at {s : List Int} {vss : List (List Vis)} {p : Nat × Nat} (hp : p ∈ vss.flatMap (pairsRow s)) : ∃ l ∈ vss, ∃ i, i < l.length ∧ p = (outV s (l.getD i v0), inV s (l.getD ((i + 1) % l.length) v0)) := by
  obtain ⟨l, hl, hpl⟩ := List.mem_flatMap.1 hp
  unfold pairsRow pairsTo at hpl
  obtain ⟨i, hi, rfl⟩ := List.mem_map.1 hpl
  exact ⟨l, hl, i, List.mem_range.1 hi, rfl⟩
theorem at_pair {s : List Int} {vss : List (List Vis)} {l : List Vis} (hl : l ∈ vss) {i : Nat} (hi : i < l.length) : (outV s (l.getD i v0), inV s (l.getD ((i + 1) % l.length) v0)) ∈ vss.flatMap (pairsRow s) :=
  List.mem_flatMap.2 ⟨l, hl, List.mem_map.2 ⟨i, List.mem_range.2 hi, rfl⟩⟩
theorem vis_in {vss : List (List Vis)} {n : Nat} (hv : visB vss n = true) {l : List Vis} (hl : l ∈ vss) {q : Nat} (hq : q < l.length) : 0 ≤ (l.getD q v0).1 ∧ (l.getD q v0).1 < (n : Int) :=
  ((visB_iff _ _).1 hv).2.1.2 _ (List.mem_flatten.2 ⟨l, hl, by simp [List.getD, hq]⟩)
/-- A switched code is valid, and has the same genus. -/
theorem sw_genus {vss : List (List Vis)} {s : List Int} {lp : Int} {x : Nat} (hv : gvalB vss s lp = true) : gvalB (swC x vss) (swS s x) lp = true ∧ genC (swC x vss) (swS s x) = genC vss s := by
  obtain ⟨⟨l1, l2, l3⟩, h2, h3⟩ := gval_out hv
  have hvs := sw_visB x h3
  refine ⟨?_, genC_spin (k := swK s x) (swS_length s x) h3 hvs fun p hp => .inl ?_⟩
  · unfold gvalB glimB
    rw [swS_length, sw_sgns h2, hvs]
    simp only [Bool.and_true, Bool.and_eq_true, decide_eq_true_eq]
    exact ⟨⟨l1, l2⟩, l3⟩
  · obtain ⟨l, hl, i, hi, rfl⟩ := pair_at hp
    have hm : l.map (swV x) ∈ swC x vss := List.mem_map.2 ⟨l, hl, rfl⟩
    have hj : (i + 1) % l.length < l.length := Nat.mod_lt _ (by omega)
    have hget : ∀ q, q < l.length → (l.map (swV x)).getD q v0 = swV x (l.getD q v0) := fun q hq => by simp [List.getD, hq]
    have := at_pair (s := swS s x) hm (i := i) (by simpa using hi)
    rw [List.length_map, hget i hi, hget _ hj, (sw_out h2 (vis_in h3 hl hi).1 (vis_in h3 hl hi).2).1, (sw_out h2 (vis_in h3 hl hj).1 (vis_in h3 hl hj).2).2] at this
    exact this

-- all sequences reversed
def revC (vss : List (List Vis)) : List (List Vis) := vss.map List.reverse
theorem rev_flat (vss : List (List Vis)) : (revC vss).flatten.Perm vss.flatten := by
  induction vss with
  | nil => exact List.Perm.refl _
  | cons l vss ih =>
    show ((List.reverse l) ++ (revC vss).flatten).Perm (l ++ vss.flatten)
    exact (List.reverse_perm l).append ih
theorem rev_visB {vss : List (List Vis)} {n : Nat} (hv : visB vss n = true) : visB (revC vss) n = true := by
  obtain ⟨h1, ⟨h2, h3⟩, h4⟩ := (visB_iff _ _).1 hv
  have hp := rev_flat vss
  refine (visB_iff _ _).2 ⟨fun l hl => ?_, ⟨hp.nodup_iff.2 h2, fun v hv => h3 v (hp.mem_iff.1 hv)⟩, by rw [hp.length_eq]; exact h4⟩
  unfold revC at hl
  obtain ⟨r, hr, rfl⟩ := List.mem_map.1 hl
  have := h1 r hr
  simpa using this
theorem rev_out {s : List Int} {v : Vis} : outV s v = spin (fun _ => 2) (inV s v) ∧ inV s v = spin (fun _ => 2) (outV s v) := by
  unfold outV inV outN inN spin
  generalize v.1.toNat = c
  cases v.2 <;> simp only [if_true, Bool.true_eq_false, if_false]
  · unfold trn; omega
  · split <;> (unfold trn; omega)
/-- A reversed code is valid, and has the same genus. -/
theorem rev_genus {vss : List (List Vis)} {s : List Int} {lp : Int} (hv : gvalB vss s lp = true) : gvalB (revC vss) s lp = true ∧ genC (revC vss) s = genC vss s := by
  obtain ⟨⟨l1, l2, l3⟩, h2, h3⟩ := gval_out hv
  have hvs := rev_visB h3
  refine ⟨?_, genC_spin (k := fun _ => 2) rfl h3 hvs fun p hp => .inr ?_⟩
  · unfold gvalB glimB
    rw [h2, hvs]
    simp only [Bool.and_true, Bool.and_eq_true, decide_eq_true_eq]
    exact ⟨⟨l1, l2⟩, l3⟩
  · obtain ⟨l, hl, i, hi, rfl⟩ := pair_at hp
    have hm : l.reverse ∈ revC vss := List.mem_map.2 ⟨l, hl, rfl⟩
    have hj : (i + 1) % l.length < l.length := Nat.mod_lt _ (by omega)
    have hget : ∀ q, q < l.length → l.reverse.getD q v0 = l.getD (l.length - 1 - q) v0 := fun q hq => by
      have : l.length - 1 - q < l.length := by omega
      simp [List.getD, hq, this, List.getElem_reverse]
    obtain ⟨j, hje⟩ : ∃ j, (i + 1) % l.length = j := ⟨_, rfl⟩
    rw [hje] at hj ⊢
    have hq : l.length - 1 - j < l.length := by omega
    have := at_pair (s := s) hm (i := l.length - 1 - j) (by simpa using hq)
    have e1 : (l.length - 1 - j + 1) % l.length = l.length - 1 - i := by
      rcases Nat.lt_or_ge (i + 1) l.length with h | h
      · rw [Nat.mod_eq_of_lt h] at hje
        subst hje
        rw [Nat.mod_eq_of_lt (by omega)]
        omega
      · have hi1 : i + 1 = l.length := by omega
        rw [hi1, Nat.mod_self] at hje
        subst hje
        rw [show l.length - 1 - 0 + 1 = l.length by omega, Nat.mod_self]
        omega
    rw [List.length_reverse, e1, hget _ hq, hget _ (by omega), show l.length - 1 - (l.length - 1 - j) = j by omega, show l.length - 1 - (l.length - 1 - i) = i by omega] at this
    rw [(rev_out (s := s) (v := l.getD j v0)).1, (rev_out (s := s) (v := l.getD i v0)).2] at this
    exact this

end Go.Proofs.YtdacjnmfmhkpiaaGreatDoor
