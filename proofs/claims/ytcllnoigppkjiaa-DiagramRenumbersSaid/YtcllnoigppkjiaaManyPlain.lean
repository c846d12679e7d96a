/- Plain mathematics: how many rows have a given length, told by the members; a bijection keeps it. -/
import Derived.Test.YtcllnoigppkjiaaFlatPlain
import Derived.Test.YtcllnoigppkjiaaHuePlain
namespace Go.Proofs.Ytcllnoigppkjiaa

/-- Rows of length k, times k: the members of rows of that length. -/
theorem rows_count (xss : List (List Nat)) (sz : Nat → Nat) (h : ∀ r ∈ xss, ∀ x ∈ r, sz x = r.length) (k : Nat) : xss.countP (fun r => r.length == k) * k = xss.flatten.countP (fun x => sz x == k) := by
  induction xss with
  | nil => simp
  | cons r rs ih =>
    have h1 := ih fun r' hr x hx => h r' (by simp [hr]) x hx
    have h2 : r.countP (fun x => sz x == k) = if r.length == k then r.length else 0 := by
      have e : ∀ x ∈ r, (sz x == k) = (r.length == k) := fun x hx => by rw [h r (by simp) x hx]
      rw [List.countP_congr (q := fun _ => r.length == k) fun x hx => by rw [e x hx]]
      cases r.length == k <;> simp
    rw [List.flatten_cons, List.countP_append, List.countP_cons, Nat.add_mul, h1, h2]
    by_cases e : r.length = k
    · simp [e]; omega
    · have : (r.length == k) = false := by simp [e]
      simp [this]
/-- Two lists of rows whose members correspond, with the lengths of their rows, have as many rows of each length. -/
theorem rows_alike {xss yss : List (List Nat)} {sz sz' : Nat → Nat} {t : Nat → Nat} (h : ∀ r ∈ xss, ∀ x ∈ r, sz x = r.length) (h' : ∀ r ∈ yss, ∀ x ∈ r, sz' x = r.length) (hp : yss.flatten.Perm (xss.flatten.map t))
    (ht : ∀ x ∈ xss.flatten, sz' (t x) = sz x) (hx : ∀ r ∈ xss, r ≠ []) (hy : ∀ r ∈ yss, r ≠ []) (k : Nat) : xss.countP (fun r => r.length == k) = yss.countP (fun r => r.length == k) := by
  by_cases hk : k = 0
  · subst hk
    have z : ∀ zss : List (List Nat), (∀ r ∈ zss, r ≠ []) → zss.countP (fun r => r.length == 0) = 0 := fun zss hz => by
      rw [List.countP_eq_zero]
      intro r hr e
      exact hz r hr (by simpa using e)
    rw [z xss hx, z yss hy]
  · have h1 := rows_count xss sz h k
    have h2 := rows_count yss sz' h' k
    rw [hp.countP_eq, List.countP_map] at h2
    have h3 : List.countP ((fun x => sz' x == k) ∘ t) xss.flatten = xss.flatten.countP (fun x => sz x == k) := List.countP_congr fun x hx => by
      simp [ht x hx]
    rw [h3, ← h1] at h2
    exact (Nat.eq_of_mul_eq_mul_right (by omega) h2).symm
theorem length_alike {xss yss : List (List Nat)} (h : ∀ k, xss.countP (fun r => r.length == k) = yss.countP (fun r => r.length == k)) : xss.length = yss.length := by
  have hp : (xss.map List.length).Perm (yss.map List.length) := List.perm_iff_count.2 fun k => by
    have e : ∀ zss : List (List Nat), (zss.map List.length).count k = zss.countP (fun r => r.length == k) := fun zss => by
      rw [List.count, List.countP_map]; rfl
    rw [e, e, h k]
  have := hp.length_eq
  simpa using this

/-- A bijection of the numbers below N rearranges them. -/
theorem Perm.range {t : Nat → Nat} {N : Nat} (q : Perm t N) : ((List.range N).map t).Perm (List.range N) := by
  refine (List.perm_ext_iff_of_nodup ?_ List.nodup_range).2 fun x => ?_
  · refine List.pairwise_map.2 (List.Pairwise.imp_of_mem (R := (· ≠ ·)) (fun {a b} ha hb hab e => hab ?_) List.nodup_range)
    exact q.inj a b (by simpa using ha) (by simpa using hb) e
  · simp only [List.mem_map, List.mem_range]
    constructor
    · rintro ⟨y, hy, rfl⟩; exact q.lt y hy
    · intro hx
      obtain ⟨r, _, e⟩ := q.returns hx
      exact ⟨it t r x, q.it_lt hx r, e⟩
theorem Perm.onto {t : Nat → Nat} {N : Nat} (q : Perm t N) {x : Nat} (hx : x < N) : ∃ y, y < N ∧ t y = x := by
  obtain ⟨r, _, e⟩ := q.returns hx
  exact ⟨it t r x, q.it_lt hx r, e⟩
theorem filter_map_perm {t : Nat → Nat} {N : Nat} (q : Perm t N) {p p' : Nat → Bool} (hp : ∀ x, x < N → p' (t x) = p x) : ((List.range N).filter p').Perm (((List.range N).filter p).map t) := by
  have h1 := q.range.symm.filter p'
  rw [List.filter_map] at h1
  have h2 : (List.range N).filter (p' ∘ t) = (List.range N).filter p := List.filter_congr fun x hx => hp x (by simpa using hx)
  rw [h2] at h1
  exact h1

theorem it_conj {f g t : Nat → Nat} {N : Nat} (q : Perm f N) (hg : ∀ x, x < N → g (t x) = t (f x)) {x : Nat} (hx : x < N) (i : Nat) : it g i (t x) = t (it f i x) := by
  induction i with
  | zero => rfl
  | succ i ih => show g (it g i (t x)) = t (f (it f i x)); rw [ih, hg _ (q.it_lt hx i)]
theorem per_unique {f : Nat → Nat} {N h k : Nat} (q : Perm f N) (hh : h < N) (h0 : 0 < k) (h1 : it f k h = h) (h2 : ∀ i, 0 < i → i < k → it f i h ≠ h) : per f N h = k := by
  have hp := q.per_spec hh
  have := per_pos f N h
  rcases Nat.lt_trichotomy (per f N h) k with e | e | e
  · exact absurd hp.1 (h2 _ this e)
  · exact e
  · exact absurd h1 (hp.2.2 k h0 e)
theorem per_conj {f g t : Nat → Nat} {N : Nat} (qf : Perm f N) (qg : Perm g N) (qt : Perm t N) (hg : ∀ x, x < N → g (t x) = t (f x)) {x : Nat} (hx : x < N) : per g N (t x) = per f N x := by
  have hp := qf.per_spec hx
  refine per_unique qg (qt.lt x hx) (per_pos f N x) (by rw [it_conj qf hg hx, hp.1]) fun i h0 hi e => ?_
  rw [it_conj qf hg hx] at e
  exact hp.2.2 i h0 hi (qt.inj _ _ (qf.it_lt hx i) hx e)
theorem per_orb {f : Nat → Nat} {N x y : Nat} (q : Perm f N) (hx : x < N) (o : Orb f x y) : per f N y = per f N x := by
  obtain ⟨i, rfl⟩ := o
  have hp := q.per_spec hx
  have back : ∀ k, it f k (it f i x) = it f i (it f k x) := fun k => by rw [← it_add, ← it_add, Nat.add_comm]
  refine per_unique q (q.it_lt hx i) (per_pos f N x) (by rw [back, hp.1]) fun k h0 hk e => ?_
  rw [back] at e
  exact hp.2.2 k h0 hk (q.it_inj (q.it_lt hx k) hx i e)
/-- The cycles as rows of numbers. -/
def cycN (f : Nat → Nat) (N : Nat) (p : Nat → Bool) : List (List Nat) := (reprs f N p).map (cyc f N)
theorem cycN_size {f : Nat → Nat} {N : Nat} {p : Nat → Bool} (q : Perm f N) : ∀ r ∈ cycN f N p, ∀ x ∈ r, per f N x = r.length := by
  intro r hr x hx
  obtain ⟨h, hh, rfl⟩ := List.mem_map.1 hr
  have h1 := (reprs_mem.1 hh).1
  rw [per_orb q h1 ((q.mem_cyc h1 x).1 hx)]
  simp [cyc]
theorem cycN_ne {f : Nat → Nat} {N : Nat} {p : Nat → Bool} : ∀ r ∈ cycN f N p, r ≠ [] := by
  intro r hr e
  obtain ⟨h, _, rfl⟩ := List.mem_map.1 hr
  have := per_pos f N h
  have hl := congrArg List.length e
  simp [cyc] at hl
  omega
theorem cycN_lens (f : Nat → Nat) (N : Nat) (p : Nat → Bool) : (cycN f N p).map List.length = (cycL f N p N).map List.length := by
  rw [cycL_reprs]; unfold cycN
  rw [List.map_map, List.map_map]
  exact List.map_congr_left fun r _ => by simp [cyc, itl]
/-- Conjugate permutations have as many cycles of each length. -/
theorem cycN_conj {f g t : Nat → Nat} {N : Nat} {p p' : Nat → Bool} (qf : Perm f N) (qg : Perm g N) (qt : Perm t N) (hg : ∀ x, x < N → g (t x) = t (f x)) (hp : ∀ x, x < N → p' (t x) = p x) (cf : ClosedN f N p) (cg : ClosedN g N p') (k : Nat) :
    (cycN f N p).countP (fun r => r.length == k) = (cycN g N p').countP (fun r => r.length == k) :=
  rows_alike (t := t) (cycN_size qf) (cycN_size qg) ((flatN_perm qg cg).trans ((filter_map_perm qt hp).trans ((flatN_perm qf cf).symm.map t)))
    (fun _ hx => per_conj qf qg qt hg ((mem_flatN qf cf).1 hx).1) cycN_ne cycN_ne k
theorem reprs_conj {f g t : Nat → Nat} {N : Nat} {p p' : Nat → Bool} (qf : Perm f N) (qg : Perm g N) (qt : Perm t N) (hg : ∀ x, x < N → g (t x) = t (f x)) (hp : ∀ x, x < N → p' (t x) = p x) (cf : ClosedN f N p) (cg : ClosedN g N p') :
    (reprs f N p).length = (reprs g N p').length := by
  have := length_alike (cycN_conj qf qg qt hg hp cf cg)
  simpa [cycN] using this

/-- How many rows have the length k. -/
def many (xss : List (List Int)) (k : Nat) : Nat := xss.countP (fun r => r.length == k)
theorem many_lens {xss : List (List Int)} {yss : List (List Nat)} (h : yss.map List.length = xss.map List.length) (k : Nat) : many xss k = yss.countP (fun r => r.length == k) := by
  have e1 : many xss k = (xss.map List.length).countP (fun n => n == k) := by rw [List.countP_map]; rfl
  have e2 : yss.countP (fun r => r.length == k) = (yss.map List.length).countP (fun n => n == k) := by rw [List.countP_map]; rfl
  rw [e1, e2, h]
theorem many_conj {f g t : Nat → Nat} {N : Nat} {p p' : Nat → Bool} (qf : Perm f N) (qg : Perm g N) (qt : Perm t N) (hg : ∀ x, x < N → g (t x) = t (f x)) (hp : ∀ x, x < N → p' (t x) = p x) (cf : ClosedN f N p) (cg : ClosedN g N p') (k : Nat) :
    many (cycL f N p N) k = many (cycL g N p' N) k := by
  rw [many_lens (cycN_lens f N p) k, many_lens (cycN_lens g N p') k]
  exact cycN_conj qf qg qt hg hp cf cg k

/-- The components as rows of numbers. -/
def membN (F : Nat → Nat) (n l : Nat) : List Nat := (List.range n).filter (fun b => F b == l)
def graphN (F : Nat → Nat) (n : Nat) : List (List Nat) := (roots F n).map (membN F n)
theorem graphN_lens (F : Nat → Nat) (n : Nat) : (graphN F n).map List.length = (graphL F n).map List.length := by
  unfold graphN graphL
  rw [List.map_map, List.map_map]
  exact List.map_congr_left fun r _ => by simp [membN, memb]
theorem mem_membN {F : Nat → Nat} {n l x : Nat} : x ∈ membN F n l ↔ x < n ∧ F x = l := by unfold membN; simp [List.mem_filter]
theorem graphN_flat {F : Nat → Nat} {n : Nat} (hle : ∀ b, F b ≤ b) (hid : ∀ b, F (F b) = F b) : (graphN F n).flatten.Perm (List.range n) := by
  refine (List.perm_ext_iff_of_nodup ?_ List.nodup_range).2 fun x => ?_
  · refine List.pairwise_flatten.2 ⟨fun l hl => ?_, ?_⟩
    · obtain ⟨r, _, rfl⟩ := List.mem_map.1 hl
      exact List.Pairwise.filter _ List.nodup_range
    · refine List.pairwise_map.2 (List.Pairwise.imp (R := (· ≠ ·)) (fun {a b} hab x hx y hy e => hab ?_) (roots_nodup F n))
      rw [← (mem_membN.1 hx).2, ← (mem_membN.1 hy).2, e]
  · unfold graphN
    simp only [List.mem_flatten, List.mem_map, List.mem_range]
    constructor
    · rintro ⟨l, ⟨r, _, rfl⟩, hx⟩
      exact (mem_membN.1 hx).1
    · intro hx
      refine ⟨_, ⟨F x, ?_, rfl⟩, mem_membN.2 ⟨hx, rfl⟩⟩
      unfold roots
      rw [List.mem_filter, List.mem_range]
      exact ⟨by have := hle x; omega, by simp [hid]⟩
theorem many_graph {F G t : Nat → Nat} {n : Nat} (hF : ∀ b, F b ≤ b) (hF2 : ∀ b, F (F b) = F b) (hG : ∀ b, G b ≤ b) (hG2 : ∀ b, G (G b) = G b) (qt : Perm t n) (h : ∀ x y, x < n → y < n → (F x = F y ↔ G (t x) = G (t y))) (k : Nat) :
    many (graphL F n) k = many (graphL G n) k := by
  rw [many_lens (graphN_lens F n) k, many_lens (graphN_lens G n) k]
  have sz : ∀ (F : Nat → Nat), ∀ r ∈ graphN F n, ∀ x ∈ r, (membN F n (F x)).length = r.length := fun F r hr x hx => by
    obtain ⟨l, _, rfl⟩ := List.mem_map.1 hr
    rw [(mem_membN.1 hx).2]
  have ne : ∀ (F : Nat → Nat), ∀ r ∈ graphN F n, r ≠ [] := fun F r hr e => by
    obtain ⟨l, hl, rfl⟩ := List.mem_map.1 hr
    obtain ⟨h1, h2⟩ := roots_lt hl
    have : l ∈ membN F n l := mem_membN.2 ⟨h1, h2⟩
    rw [e] at this; cases this
  refine rows_alike (t := t) (sz := fun x => (membN F n (F x)).length) (sz' := fun x => (membN G n (G x)).length) (sz F) (sz G) ((graphN_flat hG hG2).trans (qt.range.symm.trans ((graphN_flat hF hF2).symm.map t))) (fun x hx => ?_) (ne F) (ne G) k
  have hxn : x < n := by have := (graphN_flat hF hF2).mem_iff.1 hx; simpa using this
  show (membN G n (G (t x))).length = (membN F n (F x)).length
  have h1 := filter_map_perm qt (p := fun b => F b == F x) (p' := fun b => G b == G (t x)) fun y hy => by
    rw [Bool.eq_iff_iff]
    simp only [beq_iff_eq]
    exact (h y x hy hxn).symm
  have := h1.length_eq
  rw [List.length_map] at this
  exact this

end Go.Proofs.Ytcllnoigppkjiaa
