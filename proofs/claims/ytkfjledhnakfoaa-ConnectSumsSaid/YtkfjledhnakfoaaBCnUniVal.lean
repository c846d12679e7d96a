/- Plain: the union of two valid diagrams is valid, and has the components of both. -/
import Derived.Test.YtkfjledhnakfoaaA08
import Derived.Test.YtkfjledhnakfoaaA06
import Derived.Test.YtkfjledhnakfoaaA15
import Derived.Test.YtkfjledhnakfoaaA04
namespace Go.Proofs.Ytkfjledhnakfoaa
open Go.RowKit

theorem uv_it {f g : Nat → Nat} {N x : Nat} (p : Perm f N) (e : ∀ y, y < N → f y = g y) (hx : x < N) (i : Nat) : it f i x = it g i x := by
  induction i with
  | zero => rfl
  | succ i ih =>
    show f (it f i x) = g (it g i x)
    rw [e _ (p.it_lt hx i), ih]
theorem uv_per {f g : Nat → Nat} {N x : Nat} (p : Perm f N) (e : ∀ y, y < N → f y = g y) (hx : x < N) : per f N x = per g N x := by
  unfold per
  have : (fun q => it f (q + 1) x == x) = fun q => it g (q + 1) x == x := by funext q; rw [uv_it p e hx]
  rw [this]
theorem uv_fst {f g : Nat → Nat} {N x : Nat} (p : Perm f N) (e : ∀ y, y < N → f y = g y) (hx : x < N) : fst f N x = fst g N x := by
  unfold fst cyc
  have : (fun i => it f i x) = fun i => it g i x := by funext i; rw [uv_it p e hx]
  rw [uv_per p e hx, this]
theorem uv_ufAt {m m' : Nat → Nat} {N : Nat} (h : ∀ x, x < N → m x = m' x) (k : Nat) (hk : k ≤ N) : ufAt m k = ufAt m' k := by
  induction k with
  | zero => rfl
  | succ k ih =>
    show ufStep m (ufAt m k) k = ufStep m' (ufAt m' k) k
    rw [ih (by omega)]
    unfold ufStep
    rw [h k (by omega)]
theorem uv_lab {m m' : Nat → Nat} {N : Nat} (h : ∀ x, x < N → m x = m' x) : ufLab m N = ufLab m' N := by
  unfold ufLab; rw [uv_ufAt h N (Nat.le_refl _)]
theorem uv_sph {F f g : Nat → Nat} {N n : Nat} (p : Perm f N) (e : ∀ y, y < N → f y = g y) : sphB F f N n = sphB F g N n := by
  have : ∀ l, cntF F f N N l = cntF F g N N l := fun l => by
    unfold cntF
    refine List.countP_congr fun x hx => ?_
    rw [uv_fst p e (by simpa using hx)]
  unfold sphB
  congr 1
  funext c
  rw [this]
/-- What a valid diagram gives, at once. -/
theorem uv_data {s m : List Int} {lp : Int} {n : Nat} (hv : validB s m lp = true) (hl : s.length = n) :
    m.length = 4 * n ∧ Invol (matesOf m) (4 * n) ∧ n ≤ 64 ∧ sgnsB s = true ∧ (∀ x, x < 4 * n → outB s x ≠ outB s (matesOf m x)) ∧ (∀ x, x < 4 * n → mt m x = (matesOf m x : Nat)) ∧ sphB (ufLab (matesOf m) (4 * n)) (ff (matesOf m)) (4 * n) n = true ∧ 0 ≤ lp ∧ lp ≤ 64 := by
  obtain ⟨v1, v2, v3, v4⟩ := validB_out hv
  obtain ⟨l1, l2, l3, l4⟩ := limB_out v1
  rw [hl] at l1 l2
  refine ⟨l2, matesOf_invol v3 l2, l1, v2, fun x hx => ?_, fun x hx => (matesOf_mates v3 l2 x hx).1, ?_, l3, l4⟩
  · obtain ⟨y, h1, h2, h3, h4⟩ := pOK_out ((pairB_iff _ _).1 v3 x (by omega)) l2
    have e : matesOf m x = y := by unfold matesOf; rw [h1]; simp
    rw [e]; exact h4
  · unfold sphM at v4
    rw [l2, hl] at v4
    exact v4
theorem uv_mt {m1 m2 : List Int} {n1 n2 : Nat} (l1 : m1.length = 4 * n1) (l2 : m2.length = 4 * n2) (h1 : ∀ x, x < 4 * n1 → mt m1 x = (matesOf m1 x : Nat)) (h2 : ∀ x, x < 4 * n2 → mt m2 x = (matesOf m2 x : Nat)) :
    ∀ h, h < 4 * (n1 + n2) → mt (bsM m1 m2) h = (uniN (4 * n1) (matesOf m1) (matesOf m2) h : Nat) := fun h hh => by
  rcases Nat.lt_or_ge h (4 * n1) with hq | hq
  · rw [uni_lo _ _ hq, ← h1 h hq]
    unfold mt bsM
    rw [List.getD_eq_getElem?_getD, List.getElem?_append_left (by omega), ← List.getD_eq_getElem?_getD]
  · obtain ⟨x, rfl⟩ : ∃ x, h = 4 * n1 + x := ⟨h - 4 * n1, by omega⟩
    have hx : x < 4 * n2 := by omega
    have e : mt (bsM m1 m2) (4 * n1 + x) = mt m2 x + (m1.length : Int) := by
      unfold mt bsM
      rw [List.getD_eq_getElem?_getD, List.getElem?_append_right (by omega), l1, show 4 * n1 + x - 4 * n1 = x by omega, List.getElem?_map, List.getElem?_eq_getElem (by omega)]
      simp [List.getD, show x < m2.length by omega]
    rw [e, uni_hi, h2 x hx, l1]
    omega
theorem uv_out {s1 s2 : List Int} {n1 : Nat} (l1 : s1.length = n1) : (∀ h, h < 4 * n1 → outB (s1 ++ s2) h = outB s1 h) ∧ ∀ x, outB (s1 ++ s2) (4 * n1 + x) = outB s2 x := by
  constructor
  · intro h hh
    have e : (s1 ++ s2).getD (h / 4) 0 = s1.getD (h / 4) 0 := by
      rw [List.getD_eq_getElem?_getD, List.getElem?_append_left (by omega), ← List.getD_eq_getElem?_getD]
    unfold outB
    rw [e]
  · intro x
    have e : (s1 ++ s2).getD ((4 * n1 + x) / 4) 0 = s2.getD (x / 4) 0 := by
      rw [List.getD_eq_getElem?_getD, List.getElem?_append_right (by omega), show (4 * n1 + x) / 4 - s1.length = x / 4 by omega, ← List.getD_eq_getElem?_getD]
    unfold outB
    rw [e, show (4 * n1 + x) % 4 = x % 4 by omega]

section
variable {s1 m1 s2 m2 : List Int} {l1 l2 : Int}
theorem uv_len (hv1 : validB s1 m1 l1 = true) (hv2 : validB s2 m2 l2 = true) : (s1 ++ s2).length = s1.length + s2.length ∧ (bsM m1 m2).length = 4 * (s1.length + s2.length) := by
  obtain ⟨a1, _⟩ := uv_data hv1 rfl
  obtain ⟨b1, _⟩ := uv_data hv2 rfl
  refine ⟨List.length_append, ?_⟩
  unfold bsM
  rw [List.length_append, List.length_map]; omega
theorem uni_valid (hv1 : validB s1 m1 l1 = true) (hv2 : validB s2 m2 l2 = true) (hn : s1.length + s2.length ≤ 64) (hl : l1 + l2 ≤ 64) : validB (s1 ++ s2) (bsM m1 m2) (l1 + l2) = true := by
  obtain ⟨a1, ai, a3, a4, a5, a6, a7, a8, a9⟩ := uv_data hv1 rfl
  obtain ⟨b1, bi, b3, b4, b5, b6, b7, b8, b9⟩ := uv_data hv2 rfl
  obtain ⟨q1, q2⟩ := uv_len hv1 hv2
  obtain ⟨n1, hn1⟩ : ∃ n1, s1.length = n1 := ⟨_, rfl⟩
  obtain ⟨n2, hn2⟩ : ∃ n2, s2.length = n2 := ⟨_, rfl⟩
  obtain ⟨o1, o2⟩ := uv_out (s1 := s1) (s2 := s2) hn1
  rw [hn1] at a1 ai a3 a5 a6 a7 hn q1 q2
  rw [hn2] at b1 bi b3 b5 b6 b7 hn q1 q2
  have hmt := uv_mt a1 b1 a6 b6
  have ui := uni_invol ai bi
  have hme : ∀ h, h < 4 * (n1 + n2) → matesOf (bsM m1 m2) h = uniN (4 * n1) (matesOf m1) (matesOf m2) h := fun h hh => by
    unfold matesOf at hmt ⊢
    rw [hmt h hh]; simp
  have e1 : limB (s1 ++ s2).length (bsM m1 m2).length (l1 + l2) = true := by
    rw [q1, q2]; unfold limB; simp [hn, hl]; omega
  have e2 : sgnsB (s1 ++ s2) = true := by unfold sgnsB at a4 b4 ⊢; rw [List.all_append, a4, b4]; rfl
  have hou : ∀ h, h < 4 * (n1 + n2) → outB (s1 ++ s2) h ≠ outB (s1 ++ s2) (uniN (4 * n1) (matesOf m1) (matesOf m2) h) := fun h hh => by
    rcases Nat.lt_or_ge h (4 * n1) with hq | hq
    · rw [uni_lo _ _ hq, o1 h hq, o1 _ (ai.lt h hq)]
      exact a5 h hq
    · obtain ⟨x, rfl⟩ : ∃ x, h = 4 * n1 + x := ⟨h - 4 * n1, by omega⟩
      rw [uni_hi, o2, o2]
      exact b5 x (by omega)
  have e3 : pairB (s1 ++ s2) (bsM m1 m2) = true := (pairB_iff _ _).2 fun x hx => by
    rw [q2] at hx
    have h1 := ui.lt x hx
    have h2 := ui.inv x hx
    have h3 := hmt x hx
    have h4 := hou x hx
    obtain ⟨u, hu⟩ : ∃ u, uniN (4 * n1) (matesOf m1) (matesOf m2) x = u := ⟨_, rfl⟩
    rw [hu] at h1 h2 h3 h4
    have h5 := hmt u h1
    rw [h2] at h5
    unfold pOK
    rw [h3, q2]
    simp only [Int.toNat_natCast]
    have c1 : decide ((0 : Int) ≤ ((u : Nat) : Int)) = true := decide_eq_true (Int.natCast_nonneg _)
    have c2 : decide (((u : Nat) : Int) < ((4 * (n1 + n2) : Nat) : Int)) = true := decide_eq_true (by omega)
    have c3 : decide (mt (bsM m1 m2) u = ((x : Nat) : Int)) = true := decide_eq_true h5
    have c4 : (outB (s1 ++ s2) x != outB (s1 ++ s2) u) = true := by simp only [bne_iff_ne, ne_eq]; exact h4
    rw [c1, c2, c3, c4]; rfl
  have f1 : ∀ x, x < 4 * n1 → matesOf m1 x ≠ x := fun x hx e => a5 x hx (by rw [e])
  have f2 : ∀ x, x < 4 * n2 → matesOf m2 x ≠ x := fun x hx e => b5 x hx (by rw [e])
  have e4 : sphM (bsM m1 m2) (s1 ++ s2).length = true := by
    unfold sphM
    rw [q1, q2, uv_lab hme]
    have hp : Perm (tf (uniN (4 * n1) (matesOf m1) (matesOf m2)) 3) (4 * (n1 + n2)) := ui.perm 3
    have := uni_sph ai bi f1 f2 a7 b7
    rw [uv_sph (g := ff (matesOf (bsM m1 m2))) hp (fun y hy => by show trn _ 3 = trn _ 3; rw [hme y hy])] at this
    exact this
  unfold validB
  rw [e1, e2, e3, e4]; rfl
theorem uni_comp (hv1 : validB s1 m1 l1 = true) (hv2 : validB s2 m2 l2 = true) (hn : s1.length + s2.length ≤ 64) (hl : l1 + l2 ≤ 64) : compM (s1 ++ s2) (bsM m1 m2) (l1 + l2) = compM s1 m1 l1 + compM s2 m2 l2 := by
  have hv := uni_valid hv1 hv2 hn hl
  rw [compM_add hv, compM_add hv1, compM_add hv2]
  obtain ⟨a1, ai, a3, a4, a5, a6, a7, a8, a9⟩ := uv_data hv1 rfl
  obtain ⟨b1, bi, b3, b4, b5, b6, b7, b8, b9⟩ := uv_data hv2 rfl
  obtain ⟨q1, q2⟩ := uv_len hv1 hv2
  obtain ⟨n1, hn1⟩ : ∃ n1, s1.length = n1 := ⟨_, rfl⟩
  obtain ⟨n2, hn2⟩ : ∃ n2, s2.length = n2 := ⟨_, rfl⟩
  obtain ⟨o1, o2⟩ := uv_out (s1 := s1) (s2 := s2) hn1
  rw [hn1] at a1 ai a3 a5 a6 a7 hn q1 q2
  rw [hn2] at b1 bi b3 b5 b6 b7 hn q1 q2
  have hmt := uv_mt a1 b1 a6 b6
  have ui := uni_invol ai bi
  have hme : ∀ h, h < 4 * (n1 + n2) → matesOf (bsM m1 m2) h = uniN (4 * n1) (matesOf m1) (matesOf m2) h := fun h hh => by
    unfold matesOf at hmt ⊢
    rw [hmt h hh]; simp
  have hpu : Perm (tf (uniN (4 * n1) (matesOf m1) (matesOf m2)) 2) (4 * (n1 + n2)) := ui.perm 2
  have hp1 : Perm (tf (matesOf m1) 2) (4 * n1) := ai.perm 2
  have hp2 : Perm (tf (matesOf m2) 2) (4 * n2) := bi.perm 2
  have c1 := selP_count hp1 (outB s1)
  have c2 := selP_count hp2 (outB s2)
  have c3 := uni_selP (p := outB (s1 ++ s2)) 2 hp1 c1 c2 (fun h hh => o1 h hh) (fun x _ => o2 x)
  have eM : ∀ y, y < 4 * (n1 + n2) → tf (uniN (4 * n1) (matesOf m1) (matesOf m2)) 2 y = fs (matesOf (bsM m1 m2)) y := fun y hy => by show trn _ 2 = trn _ 2; rw [hme y hy]
  have hpM : Perm (fs (matesOf (bsM m1 m2))) (4 * (n1 + n2)) := by
    refine ⟨fun h hh => ?_, fun h g hh hg e => ?_⟩
    · rw [← eM h hh]; exact hpu.lt h hh
    · rw [← eM h hh, ← eM g hg] at e; exact hpu.inj h g hh hg e
  have c4 := selP_count hpM (outB (s1 ++ s2))
  have c5 : Cnt (SelP (fs (matesOf (bsM m1 m2))) (outB (s1 ++ s2))) (4 * (n1 + n2)) ((cycL (tf (matesOf m1) 2) (4 * n1) (outB s1) (4 * n1)).length + (cycL (tf (matesOf m2) 2) (4 * n2) (outB s2) (4 * n2)).length) := by
    refine c3.congr fun x hx => ?_
    unfold SelP Orb
    constructor
    · rintro ⟨h1, h2⟩
      exact ⟨h1, fun h' hl ho ⟨i, e⟩ => h2 h' hl ho ⟨i, by rw [uv_it hpu eM (by omega)]; exact e⟩⟩
    · rintro ⟨h1, h2⟩
      exact ⟨h1, fun h' hl ho ⟨i, e⟩ => h2 h' hl ho ⟨i, by rw [← uv_it hpu eM (by omega)]; exact e⟩⟩
  have c6 := c4.uniq c5
  have t0 : (strandsM (s1 ++ s2) (bsM m1 m2) (l1 + l2)).length = (cycL (fs (matesOf (bsM m1 m2))) (4 * (n1 + n2)) (outB (s1 ++ s2)) (4 * (n1 + n2))).length := by simp [strandsM, hv, q2]
  have t1 : (strandsM s1 m1 l1).length = (cycL (tf (matesOf m1) 2) (4 * n1) (outB s1) (4 * n1)).length := by simp only [strandsM, hv1, a1]; rfl
  have t2 : (strandsM s2 m2 l2).length = (cycL (tf (matesOf m2) 2) (4 * n2) (outB s2) (4 * n2)).length := by simp only [strandsM, hv2, b1]; rfl
  rw [t0, t1, t2, c6]
  omega
end

end Go.Proofs.Ytkfjledhnakfoaa
