import Derived.Test.YtkfjledhnakfoaaA07
import Derived.Test.YtkfjledhnakfoaaA04
/- Plain mathematics: two edges exchange their ends; how faces and components change. -/
namespace Go.Proofs.Ytkfjledhnakfoaa

/-- Two crossings' half-edges lie in one component. -/
def labR (F : Nat → Nat) (n x y : Nat) : Prop := x < 4 * n ∧ y < 4 * n ∧ F (x / 4) = F (y / 4)
theorem labR_eqv (F : Nat → Nat) (n : Nat) : Eqv (labR F n) (4 * n) :=
  ⟨fun _ _ h => ⟨h.1, h.2.1⟩, fun _ h => ⟨h, h, rfl⟩, fun _ _ h => ⟨h.2.1, h.1, h.2.2.symm⟩, fun _ _ _ h k => ⟨h.1, k.2.1, h.2.2.trans k.2.2⟩⟩
theorem labR_edge {m F : Nat → Nat} {n : Nat} (i : Invol m (4 * n)) (hl : IsLab m (4 * n) n F) (x : Nat) (hx : x < 4 * n) : labR F n x (m x) := ⟨hx, i.lt x hx, hl.2 x hx⟩
theorem conn_sub {m : Nat → Nat} {n : Nat} {S : Nat → Nat → Prop} (hS : Eqv S (4 * n)) (i : Invol m (4 * n)) (hc : ∀ x y, x < 4 * n → y < 4 * n → x / 4 = y / 4 → S x y) (he : ∀ x, x < 4 * n → S x (m x)) {a b : Nat} (h : Conn m (4 * n) a b) (ha : a < n) :
    b < n ∧ S (4 * a) (4 * b) := by
  induction h with
  | refl => exact ⟨ha, hS.refl _ (by omega)⟩
  | step j hj _ ih =>
    obtain ⟨h1, h2⟩ := ih
    have hm := i.lt j hj
    exact ⟨by omega, hS.trans _ _ _ (hS.trans _ _ _ (hS.trans _ _ _ h2 (hc _ j (by omega) hj (by omega))) (he j hj)) (hc _ _ hm (by omega) (by omega))⟩
  | back j hj _ ih =>
    obtain ⟨h1, h2⟩ := ih
    have hm := i.lt j hj
    exact ⟨by omega, hS.trans _ _ _ (hS.trans _ _ _ (hS.trans _ _ _ h2 (hc _ (m j) (by omega) hm (by omega))) (hS.symm _ _ (he j hj))) (hc _ _ hj (by omega) (by omega))⟩
theorem lab_sub {m F : Nat → Nat} {n : Nat} {S : Nat → Nat → Prop} (hS : Eqv S (4 * n)) (i : Invol m (4 * n)) (hl : IsLab m (4 * n) n F) (hc : ∀ x y, x < 4 * n → y < 4 * n → x / 4 = y / 4 → S x y) (he : ∀ x, x < 4 * n → S x (m x)) {x y : Nat} (h : labR F n x y) : S x y := by
  obtain ⟨h1, h2, h3⟩ := h
  have c1 := (hl.1 (x / 4) (by omega)).2
  have c2 := (hl.1 (y / 4) (by omega)).2
  rw [h3] at c1
  have k := (conn_sub hS i hc he (c1.trans c2.symm) (by omega)).2
  exact hS.trans _ _ _ (hc x _ h1 (by omega) (by omega)) (hS.trans _ _ _ k (hc _ y (by omega) h2 (by omega)))
theorem cls_sub_le {R S : Nat → Nat → Prop} {N k j : Nat} (hk : Cls R N k) (hj : Cls S N j) (hs : ∀ x y, R x y → S x y) : j ≤ k :=
  Cnt.le hj hk fun _ _ q g hg r => q g hg (hs _ _ r)
abbrev tf (m : Nat → Nat) (k : Nat) : Nat → Nat := fun x => trn (m x) k
theorem orb_lab {m F : Nat → Nat} {n k : Nat} (i : Invol m (4 * n)) (hl : IsLab m (4 * n) n F) {g x : Nat} (hg : g < 4 * n) (h : Orb (tf m k) g x) : labR F n g x := by
  obtain ⟨j, rfl⟩ := h
  induction j with
  | zero => exact ⟨hg, hg, rfl⟩
  | succ j ih =>
    have h1 := labR_edge i hl _ ih.2.1
    refine (labR_eqv F n).trans _ _ _ ih ((labR_eqv F n).trans _ _ _ h1 ⟨h1.2.1, trn_lt h1.2.1, ?_⟩)
    show F (m _ / 4) = F (trn (m _) k / 4)
    rw [trn_div]
/-- The faces are at most those of the sphere. -/
theorem faces_le {m : Nat → Nat} {n : Nat} {F : Nat → Nat} (i : Invol m (4 * n)) (hfix : ∀ x, x < 4 * n → m x ≠ x) (hlab : IsLab m (4 * n) n F) (hle : ∀ c, F c ≤ c) (hid : ∀ c, F (F c) = F c) :
    (List.range (4 * n)).countP (fst (tf m 3) (4 * n)) ≤ n + 2 * rootsN F n := by
  have h1 := count_by (fst (fun x => trn (m x) 3) (4 * n)) (fun x => F (x / 4)) n (4 * n) (fun x hx => by have := hle (x / 4); omega)
  have h2 := count_by (fun _ => true) F n n (fun x hx => by have := hle x; omega)
  have h3 : (List.range n).countP (fun _ => true) = n := by simp
  rw [h3] at h2
  have h4 : sumN (fun l => if F l == l then 1 else 0) n = rootsN F n := by
    have : ∀ k, sumN (fun l => if F l == l then 1 else 0) k = rootsN F k := by
      intro k
      induction k with
      | zero => rfl
      | succ k ih =>
        show sumN _ k + _ = _
        rw [ih]
        unfold rootsN
        rw [List.range_succ, List.countP_append]
        cases h : F k == k <;> simp [h]
    exact this n
  have hroot : ∀ l, l < n → F l ≠ l → cntF F (fun x => trn (m x) 3) (4 * n) (4 * n) l = 0 := fun l _ hne => by
    unfold cntF
    rw [List.countP_eq_zero]
    intro x _ hx
    simp only [Bool.and_eq_true, beq_iff_eq] at hx
    exact hne (by rw [← hx.2, hid])
  have hall : ∀ l, l < n → cntF F (fun x => trn (m x) 3) (4 * n) (4 * n) l ≤ cntV F n l + ((if F l == l then 1 else 0) + (if F l == l then 1 else 0)) := fun l hl => by
    by_cases e : F l = l
    · have := comp_face_le i hfix hlab hle hl e
      simp [e]; omega
    · rw [hroot l hl e]; omega
  have hs : sumN (fun l => cntV F n l + ((if F l == l then 1 else 0) + (if F l == l then 1 else 0))) n = n + 2 * rootsN F n := by
    rw [sumN_add, sumN_add, h4]
    have e : sumN (fun l => (List.range n).countP fun x => true && F x == l) n = sumN (cntV F n) n := sumN_congr fun l _ => by unfold cntV; simp
    have e2 : sumN (cntV F n) n = n := by rw [← e]; exact h2
    omega
  have hf : sumN (fun l => cntF F (fun x => trn (m x) 3) (4 * n) (4 * n) l) n = (List.range (4 * n)).countP (fst (tf m 3) (4 * n)) := by
    rw [← h1]; rfl
  rw [← hf]
  exact Nat.le_trans (sumN_le n hall) (Nat.le_of_eq hs)

/-- The edges of x and y exchange their ends. -/
def exN (M : Nat → Nat) (x y h : Nat) : Nat := if h = M x then y else if h = y then M x else if h = M y then x else if h = x then M y else M h
/-- Two different edges. -/
structure Two (M : Nat → Nat) (N x y : Nat) : Prop where
  i : Invol M N
  hfix : ∀ h, h < N → M h ≠ h
  hx : x < N
  hy : y < N
  ne : x ≠ y
  nm : y ≠ M x
section
variable {M : Nat → Nat} {N x y : Nat}
theorem Two.far (T : Two M N x y) : M x ≠ x ∧ M y ≠ y ∧ M x ≠ M y ∧ x ≠ M y ∧ M x < N ∧ M y < N ∧ M (M x) = x ∧ M (M y) = y :=
  ⟨T.hfix x T.hx, T.hfix y T.hy, fun e => T.ne (by rw [← T.i.inv x T.hx, e, T.i.inv y T.hy]), fun e => T.nm (by rw [e, T.i.inv y T.hy]), T.i.lt x T.hx, T.i.lt y T.hy, T.i.inv x T.hx, T.i.inv y T.hy⟩
theorem Two.at (T : Two M N x y) : exN M x y x = M y ∧ exN M x y y = M x ∧ exN M x y (M x) = y ∧ exN M x y (M y) = x ∧ ∀ h, h ≠ x → h ≠ y → h ≠ M x → h ≠ M y → exN M x y h = M h := by
  obtain ⟨f1, f2, f3, f4, _⟩ := T.far
  have f5 := T.ne
  have f6 := T.nm
  refine ⟨?_, ?_, ?_, ?_, fun h h1 h2 h3 h4 => ?_⟩
  · unfold exN; rw [if_neg (fun e => f1 e.symm), if_neg f5, if_neg f4, if_pos rfl]
  · unfold exN; rw [if_neg f6, if_pos rfl]
  · unfold exN; rw [if_pos rfl]
  · unfold exN; rw [if_neg (fun e => f3 e.symm), if_neg f2, if_pos rfl]
  · unfold exN; rw [if_neg h3, if_neg h2, if_neg h4, if_neg h1]
theorem Two.cases (T : Two M N x y) (h : Nat) : (h = x ∧ exN M x y h = M y) ∨ (h = y ∧ exN M x y h = M x) ∨ (h = M x ∧ exN M x y h = y) ∨ (h = M y ∧ exN M x y h = x) ∨ (h ≠ x ∧ h ≠ y ∧ h ≠ M x ∧ h ≠ M y ∧ exN M x y h = M h) := by
  obtain ⟨a1, a2, a3, a4, a5⟩ := T.at
  by_cases e1 : h = x
  · exact .inl ⟨e1, by rw [e1, a1]⟩
  by_cases e2 : h = y
  · exact .inr (.inl ⟨e2, by rw [e2, a2]⟩)
  by_cases e3 : h = M x
  · exact .inr (.inr (.inl ⟨e3, by rw [e3, a3]⟩))
  by_cases e4 : h = M y
  · exact .inr (.inr (.inr (.inl ⟨e4, by rw [e4, a4]⟩)))
  exact .inr (.inr (.inr (.inr ⟨e1, e2, e3, e4, a5 h e1 e2 e3 e4⟩)))
theorem Two.invol (T : Two M N x y) : Invol (exN M x y) N := by
  obtain ⟨f1, f2, f3, f4, l1, l2, v1, v2⟩ := T.far
  obtain ⟨a1, a2, a3, a4, a5⟩ := T.at
  refine ⟨fun h hh => ?_, fun h hh => ?_⟩
  · rcases T.cases h with ⟨_, e⟩ | ⟨_, e⟩ | ⟨_, e⟩ | ⟨_, e⟩ | ⟨_, _, _, _, e⟩ <;> rw [e]
    · exact l2
    · exact l1
    · exact T.hy
    · exact T.hx
    · exact T.i.lt h hh
  · rcases T.cases h with ⟨e', e⟩ | ⟨e', e⟩ | ⟨e', e⟩ | ⟨e', e⟩ | ⟨h1, h2, h3, h4, e⟩ <;> rw [e]
    · rw [a4, e']
    · rw [a3, e']
    · rw [a2, e']
    · rw [a1, e']
    · rw [a5 _ (fun q => h3 (by rw [← q, T.i.inv h hh])) (fun q => h4 (by rw [← q, T.i.inv h hh])) (fun q => h1 (by rw [← T.i.inv h hh, q, v1])) (fun q => h2 (by rw [← T.i.inv h hh, q, v2])), T.i.inv h hh]
theorem Two.fix (T : Two M N x y) (h : Nat) (hh : h < N) : exN M x y h ≠ h := by
  obtain ⟨f1, f2, f3, f4, _⟩ := T.far
  rcases T.cases h with ⟨e', e⟩ | ⟨e', e⟩ | ⟨e', e⟩ | ⟨e', e⟩ | ⟨h1, h2, h3, h4, e⟩ <;> rw [e]
  · rw [e']; exact fun q => f4 q.symm
  · rw [e']; exact fun q => T.nm q.symm
  · rw [e']; exact T.nm
  · rw [e']; exact f4
  · exact T.hfix h hh
theorem Two.tf (T : Two M N x y) (k : Nat) : Go.Proofs.Ytkfjledhnakfoaa.tf (exN M x y) k = swf (swf (Go.Proofs.Ytkfjledhnakfoaa.tf M k) x y) (M x) (M y) := by
  obtain ⟨f1, f2, f3, f4, l1, l2, v1, v2⟩ := T.far
  funext h
  show trn (exN M x y h) k = trn (M (sw x y (sw (M x) (M y) h))) k
  congr 1
  rcases T.cases h with ⟨e', e⟩ | ⟨e', e⟩ | ⟨e', e⟩ | ⟨e', e⟩ | ⟨h1, h2, h3, h4, e⟩ <;> rw [e]
  · rw [e', sw_other (fun q => f1 q.symm) f4, sw_left]
  · rw [e', sw_other T.nm (fun q => f2 q.symm), sw_right]
  · rw [e', sw_left, sw_other (fun q => f4 q.symm) f2, v2]
  · rw [e', sw_right, sw_other f1 (fun q => T.nm q.symm), v1]
  · rw [sw_other h3 h4, sw_other h1 h2]
end
theorem cls_split {f : Nat → Nat} {N a b k j : Nat} (p : Perm f N) (ha : a < N) (hb : b < N) (hne : a ≠ b) (hab : Orb f a b) (hk : Cls (RO' f N) N k) (hj : Cls (RO' (swf f a b) N) N j) : j = k + 1 := by
  have q := p.swf ha hb
  have hn : ¬ Orb (swf f a b) b a := p.split ha hne hab
  have hn' : ¬ Orb (swf f a b) a b := fun o => hn (q.orb_symm ha o)
  have hm := fun x y => q.merge ha hb hn' x y
  rw [swf_swf] at hm
  exact cls_merge q.eqv ha hb (fun r => hn' r.2) hj (cls_congr hk hm)
theorem cls_join {f : Nat → Nat} {N a b k j : Nat} (p : Perm f N) (ha : a < N) (hb : b < N) (hab : ¬ Orb f a b) (hk : Cls (RO' f N) N k) (hj : Cls (RO' (swf f a b) N) N j) : k = j + 1 :=
  cls_merge p.eqv ha hb (fun r => hab r.2) hk (cls_congr hj fun x y => p.merge ha hb hab x y)

section
variable {M : Nat → Nat} {n x y : Nat}
/-- Two edges between the same two faces exchange their ends: the component falls apart, and both parts lie on spheres. -/
theorem Two.cut (T : Two M (4 * n) x y) (hs : sphB (ufLab M (4 * n)) (Go.Proofs.Ytkfjledhnakfoaa.tf M 3) (4 * n) n = true) (h1 : Orb (Go.Proofs.Ytkfjledhnakfoaa.tf M 3) x y) (h2 : Orb (Go.Proofs.Ytkfjledhnakfoaa.tf M 3) (M x) (M y)) :
    sphB (ufLab (exN M x y) (4 * n)) (Go.Proofs.Ytkfjledhnakfoaa.tf (exN M x y) 3) (4 * n) n = true ∧ ¬ labR (ufLab (exN M x y) (4 * n)) n x (M x) ∧
      (∀ a b, labR (ufLab M (4 * n)) n a b → Merge (labR (ufLab (exN M x y) (4 * n)) n) x (M x) a b) := by
  obtain ⟨f1, f2, f3, f4, l1, l2, v1, v2⟩ := T.far
  obtain ⟨a1, a2, a3, a4, a5⟩ := T.at
  have hle : ∀ m c, ufLab m (4 * n) c ≤ c := fun m c => root_le _ _
  have hid : ∀ m c, ufLab m (4 * n) (ufLab m (4 * n) c) = ufLab m (4 * n) c := fun m c => root_root _ _
  have i' := T.invol
  have hl := ufLab_isLab M (4 * n) n
  have hl' := ufLab_isLab (exN M x y) (4 * n) n
  have p := T.i.perm 3
  -- the faces
  have hk : Cls (RO' (Go.Proofs.Ytkfjledhnakfoaa.tf M 3) (4 * n)) (4 * n) ((List.range (4 * n)).countP (fst (Go.Proofs.Ytkfjledhnakfoaa.tf M 3) (4 * n))) := cls_orb p
  have hkn : (List.range (4 * n)).countP (fst (Go.Proofs.Ytkfjledhnakfoaa.tf M 3) (4 * n)) = n + 2 * rootsN (ufLab M (4 * n)) n := euler_all hs (hle M) (hid M)
  obtain ⟨kg, hg⟩ := Cnt.ex (fun h => ∀ g, g < h → ¬ RO' (swf (Go.Proofs.Ytkfjledhnakfoaa.tf M 3) x y) (4 * n) g h) (4 * n)
  have e1 := cls_split p T.hx T.hy T.ne h1 hk hg
  have s1 : ¬ Orb (Go.Proofs.Ytkfjledhnakfoaa.tf M 3) (M x) x := fun o => sides_sph T.i T.hfix hs x T.hx (p.orb_symm l1 o)
  have s2 : ¬ Orb (Go.Proofs.Ytkfjledhnakfoaa.tf M 3) (M x) y := fun o => s1 (o.trans (p.orb_symm T.hx h1))
  have o2 : Orb (swf (Go.Proofs.Ytkfjledhnakfoaa.tf M 3) x y) (M x) (M y) := by
    obtain ⟨j, hj⟩ := h2
    exact ⟨j, by rw [Perm.apart s1 s2]; exact hj⟩
  have hh : Cls (RO' (swf (swf (Go.Proofs.Ytkfjledhnakfoaa.tf M 3) x y) (M x) (M y)) (4 * n)) (4 * n) ((List.range (4 * n)).countP (fst (Go.Proofs.Ytkfjledhnakfoaa.tf (exN M x y) 3) (4 * n))) := by rw [← T.tf 3]; exact cls_orb (i'.perm 3)
  have e2 := cls_split (p.swf T.hx T.hy) l1 l2 f3 o2 hg hh
  -- the components
  have hfl := faces_le i' T.fix hl' (hle _) (hid _)
  have c0 := cls_lab (n := n) (hle M) (hid M)
  have c1 := cls_lab (n := n) (hle (exN M x y)) (hid (exN M x y))
  have E' := labR_eqv (ufLab (exN M x y) (4 * n)) n
  have hsub : ∀ a b, labR (ufLab M (4 * n)) n a b → Merge (labR (ufLab (exN M x y) (4 * n)) n) x (M x) a b := fun a b hab => by
    have ES := Merge.eqv (a := x) (b := M x) E'
    refine lab_sub ES T.i hl (fun u v hu hv e => .inl ⟨hu, hv, by rw [e]⟩) (fun z hz => ?_) hab
    have hx' := labR_edge i' hl' x T.hx
    rw [a1] at hx'
    have hy' := labR_edge i' hl' y T.hy
    rw [a2] at hy'
    have hm : Merge (labR (ufLab (exN M x y) (4 * n)) n) x (M x) x (M x) := .inr (.inl ⟨E'.refl _ T.hx, E'.refl _ l1⟩)
    have hmy : Merge (labR (ufLab (exN M x y) (4 * n)) n) x (M x) y (M y) := ES.trans _ _ _ (.inl hy') (ES.trans _ _ _ (ES.symm _ _ hm) (.inl hx'))
    rcases T.cases z with ⟨e', e⟩ | ⟨e', e⟩ | ⟨e', e⟩ | ⟨e', e⟩ | ⟨_, _, _, _, e⟩
    · rw [e']; exact hm
    · rw [e']; exact hmy
    · rw [e', v1]; exact ES.symm _ _ hm
    · rw [e', v2]; exact ES.symm _ _ hmy
    · rw [← e]; exact .inl (labR_edge i' hl' z hz)
  have hnot : ¬ labR (ufLab (exN M x y) (4 * n)) n x (M x) := fun q => by
    have := cls_sub_le c0 c1 fun a b hab => (Merge.same E' q).1 (hsub a b hab)
    omega
  obtain ⟨j, hj⟩ := Cnt.ex (fun h => ∀ g, g < h → ¬ Merge (labR (ufLab (exN M x y) (4 * n)) n) x (M x) g h) (4 * n)
  have e3 := cls_merge E' T.hx l1 hnot c1 hj
  have e4 := cls_sub_le c0 hj hsub
  refine ⟨sph_of_total i' T.fix hl' (hle _) (hid _) ?_, hnot, hsub⟩
  show (List.range (4 * n)).countP (fst (Go.Proofs.Ytkfjledhnakfoaa.tf (exN M x y) 3) (4 * n)) = _
  omega
/-- Two edges of different components exchange their ends: the components become one, and it lies on a sphere. -/
theorem Two.sum (T : Two M (4 * n) x y) (hs : sphB (ufLab M (4 * n)) (Go.Proofs.Ytkfjledhnakfoaa.tf M 3) (4 * n) n = true) (hxy : ¬ labR (ufLab M (4 * n)) n x y) :
    sphB (ufLab (exN M x y) (4 * n)) (Go.Proofs.Ytkfjledhnakfoaa.tf (exN M x y) 3) (4 * n) n = true ∧ (∀ a b, labR (ufLab M (4 * n)) n a b → labR (ufLab (exN M x y) (4 * n)) n a b) ∧ labR (ufLab (exN M x y) (4 * n)) n x y ∧
      Orb (Go.Proofs.Ytkfjledhnakfoaa.tf (exN M x y) 3) x y ∧ Orb (Go.Proofs.Ytkfjledhnakfoaa.tf (exN M x y) 3) (M x) (M y) := by
  obtain ⟨f1, f2, f3, f4, l1, l2, v1, v2⟩ := T.far
  obtain ⟨a1, a2, a3, a4, a5⟩ := T.at
  have hle : ∀ m c, ufLab m (4 * n) c ≤ c := fun m c => root_le _ _
  have hid : ∀ m c, ufLab m (4 * n) (ufLab m (4 * n) c) = ufLab m (4 * n) c := fun m c => root_root _ _
  have i' := T.invol
  have hl := ufLab_isLab M (4 * n) n
  have hl' := ufLab_isLab (exN M x y) (4 * n) n
  have p := T.i.perm 3
  have E := labR_eqv (ufLab M (4 * n)) n
  have E' := labR_eqv (ufLab (exN M x y) (4 * n)) n
  have hk : Cls (RO' (Go.Proofs.Ytkfjledhnakfoaa.tf M 3) (4 * n)) (4 * n) ((List.range (4 * n)).countP (fst (Go.Proofs.Ytkfjledhnakfoaa.tf M 3) (4 * n))) := cls_orb p
  have hkn : (List.range (4 * n)).countP (fst (Go.Proofs.Ytkfjledhnakfoaa.tf M 3) (4 * n)) = n + 2 * rootsN (ufLab M (4 * n)) n := euler_all hs (hle M) (hid M)
  have n1 : ¬ Orb (Go.Proofs.Ytkfjledhnakfoaa.tf M 3) x y := fun o => hxy (orb_lab T.i hl T.hx o)
  have exx := labR_edge T.i hl x T.hx
  have eyy := labR_edge T.i hl y T.hy
  obtain ⟨kg, hg⟩ := Cnt.ex (fun h => ∀ g, g < h → ¬ RO' (swf (Go.Proofs.Ytkfjledhnakfoaa.tf M 3) x y) (4 * n) g h) (4 * n)
  have e1 := cls_join p T.hx T.hy n1 hk hg
  have s1 : ¬ Orb (Go.Proofs.Ytkfjledhnakfoaa.tf M 3) (M x) x := fun o => sides_sph T.i T.hfix hs x T.hx (p.orb_symm l1 o)
  have s2 : ¬ Orb (Go.Proofs.Ytkfjledhnakfoaa.tf M 3) (M x) y := fun o => hxy (E.trans _ _ _ exx (orb_lab T.i hl l1 o))
  have n2 : ¬ Orb (swf (Go.Proofs.Ytkfjledhnakfoaa.tf M 3) x y) (M x) (M y) := fun ⟨j, hj⟩ => by
    rw [Perm.apart s1 s2] at hj
    exact hxy (E.trans _ _ _ exx (E.trans _ _ _ (orb_lab T.i hl l1 ⟨j, hj⟩) (E.symm _ _ eyy)))
  have hh : Cls (RO' (swf (swf (Go.Proofs.Ytkfjledhnakfoaa.tf M 3) x y) (M x) (M y)) (4 * n)) (4 * n) ((List.range (4 * n)).countP (fst (Go.Proofs.Ytkfjledhnakfoaa.tf (exN M x y) 3) (4 * n))) := by rw [← T.tf 3]; exact cls_orb (i'.perm 3)
  have pg := p.swf T.hx T.hy
  have e2 := cls_join pg l1 l2 n2 hg hh
  have r1 : RO' (swf (Go.Proofs.Ytkfjledhnakfoaa.tf M 3) x y) (4 * n) x y := (p.merge T.hx T.hy n1 x y).2 (.inr (.inl ⟨p.eqv.refl _ T.hx, p.eqv.refl _ T.hy⟩))
  have r2 := (pg.merge l1 l2 n2 x y).2 (.inl r1)
  have r3 := (pg.merge l1 l2 n2 (M x) (M y)).2 (.inr (.inl ⟨pg.eqv.refl _ l1, pg.eqv.refl _ l2⟩))
  rw [← T.tf 3] at r2 r3
  have hfl := faces_le i' T.fix hl' (hle _) (hid _)
  have c0 := cls_lab (n := n) (hle M) (hid M)
  have c1 := cls_lab (n := n) (hle (exN M x y)) (hid (exN M x y))
  have q1 := orb_lab i' hl' T.hx r2.2
  have hx' := labR_edge i' hl' x T.hx
  rw [a1] at hx'
  have hy' := labR_edge i' hl' y T.hy
  rw [a2] at hy'
  have hxm : labR (ufLab (exN M x y) (4 * n)) n x (M x) := E'.trans _ _ _ q1 hy'
  have hym : labR (ufLab (exN M x y) (4 * n)) n y (M y) := E'.trans _ _ _ (E'.symm _ _ q1) hx'
  have hsub : ∀ a b, labR (ufLab M (4 * n)) n a b → labR (ufLab (exN M x y) (4 * n)) n a b := fun a b hab => by
    refine lab_sub E' T.i hl (fun u v hu hv e => ⟨hu, hv, by rw [e]⟩) (fun z hz => ?_) hab
    rcases T.cases z with ⟨e', e⟩ | ⟨e', e⟩ | ⟨e', e⟩ | ⟨e', e⟩ | ⟨_, _, _, _, e⟩
    · rw [e']; exact hxm
    · rw [e']; exact hym
    · rw [e', v1]; exact E'.symm _ _ hxm
    · rw [e', v2]; exact E'.symm _ _ hym
    · rw [← e]; exact labR_edge i' hl' z hz
  obtain ⟨j, hj⟩ := Cnt.ex (fun h => ∀ g, g < h → ¬ Merge (labR (ufLab M (4 * n)) n) x y g h) (4 * n)
  have e3 := cls_merge E T.hx T.hy hxy c0 hj
  have e4 := cls_sub_le hj c1 (fun a b r => by
    rcases r with r | ⟨r1, r2⟩ | ⟨r1, r2⟩
    · exact hsub _ _ r
    · exact E'.trans _ _ _ (hsub _ _ r1) (E'.trans _ _ _ q1 (hsub _ _ r2))
    · exact E'.trans _ _ _ (hsub _ _ r1) (E'.trans _ _ _ (E'.symm _ _ q1) (hsub _ _ r2)))
  refine ⟨sph_of_total i' T.fix hl' (hle _) (hid _) ?_, hsub, q1, r2.2, r3.2⟩
  show (List.range (4 * n)).countP (fst (Go.Proofs.Ytkfjledhnakfoaa.tf (exN M x y) 3) (4 * n)) = _
  omega
end

end Go.Proofs.Ytkfjledhnakfoaa

/- Plain mathematics: two diagrams beside each other. -/
namespace Go.Proofs.Ytkfjledhnakfoaa

def uniN (N1 : Nat) (M1 M2 : Nat → Nat) (h : Nat) : Nat := if h < N1 then M1 h else N1 + M2 (h - N1)
theorem uni_lo {N1 h : Nat} (M1 M2 : Nat → Nat) (hh : h < N1) : uniN N1 M1 M2 h = M1 h := by unfold uniN; rw [if_pos hh]
theorem uni_hi (N1 x : Nat) (M1 M2 : Nat → Nat) : uniN N1 M1 M2 (N1 + x) = N1 + M2 x := by unfold uniN; rw [if_neg (by omega), show N1 + x - N1 = x by omega]
theorem trn_add (c x k : Nat) : trn (4 * c + x) k = 4 * c + trn x k := by unfold trn; omega
/-- Wanted and the first of its cycle among the wanted. -/
def SelP (f : Nat → Nat) (p : Nat → Bool) (h : Nat) : Prop := p h = true ∧ ∀ h', h' < h → p h' = true → ¬ Orb f h' h
theorem selP_count {f : Nat → Nat} {N : Nat} (q : Perm f N) (p : Nat → Bool) : Cnt (SelP f p) N (cycL f N p N).length := by
  have h := (Cnt.countP (sel f N p) N).congr fun x hx => q.sel_iff p hx
  unfold cycL
  rw [List.length_map, ← List.countP_eq_length_filter]
  exact h
theorem selP_faces {f : Nat → Nat} {N : Nat} (q : Perm f N) : Cnt (SelP f fun _ => true) N ((List.range N).countP (fst f N)) :=
  (Cnt.countP (fst f N) N).congr fun x hx => by
    rw [q.fst_iff hx]
    exact ⟨fun h => ⟨rfl, fun h' hl _ => h h' hl⟩, fun h h' hl => h.2 h' hl rfl⟩
theorem Cnt.add {p q : Nat → Prop} {a b k j : Nat} (h : Cnt p a k) (g : Cnt q b j) (e : ∀ x, x < b → (q x ↔ p (a + x))) : Cnt p (a + b) (k + j) := by
  induction g with
  | zero => exact h
  | yes hq _ ih => exact .yes ((e _ (by omega)).1 hq) (ih fun x hx => e x (by omega))
  | no hq _ ih => exact .no (fun hp => hq ((e _ (by omega)).2 hp)) (ih fun x hx => e x (by omega))

section
variable {M1 M2 : Nat → Nat} {n1 n2 : Nat}
theorem uni_invol (i1 : Invol M1 (4 * n1)) (i2 : Invol M2 (4 * n2)) : Invol (uniN (4 * n1) M1 M2) (4 * (n1 + n2)) := by
  have key : ∀ h, h < 4 * (n1 + n2) → h < 4 * n1 ∨ ∃ x, x < 4 * n2 ∧ h = 4 * n1 + x := fun h hh => by
    by_cases e : h < 4 * n1
    · exact .inl e
    · exact .inr ⟨h - 4 * n1, by omega, by omega⟩
  refine ⟨fun h hh => ?_, fun h hh => ?_⟩
  · rcases key h hh with e | ⟨x, hx, rfl⟩
    · rw [uni_lo _ _ e]; have := i1.lt h e; omega
    · rw [uni_hi]; have := i2.lt x hx; omega
  · rcases key h hh with e | ⟨x, hx, rfl⟩
    · rw [uni_lo _ _ e, uni_lo _ _ (i1.lt h e), i1.inv h e]
    · rw [uni_hi, uni_hi, i2.inv x hx]
theorem uni_fix (f1 : ∀ x, x < 4 * n1 → M1 x ≠ x) (f2 : ∀ x, x < 4 * n2 → M2 x ≠ x) (h : Nat) (hh : h < 4 * (n1 + n2)) : uniN (4 * n1) M1 M2 h ≠ h := by
  by_cases e : h < 4 * n1
  · rw [uni_lo _ _ e]; exact f1 h e
  · have := f2 (h - 4 * n1) (by omega)
    unfold uniN; rw [if_neg e]; omega
theorem uni_it_lo (k : Nat) (q : Perm (tf M1 k) (4 * n1)) {x : Nat} (hx : x < 4 * n1) (i : Nat) : it (tf (uniN (4 * n1) M1 M2) k) i x = it (tf M1 k) i x := by
  induction i with
  | zero => rfl
  | succ i ih =>
    show trn (uniN _ _ _ (it _ i x)) k = trn (M1 (it _ i x)) k
    rw [ih, uni_lo _ _ (q.it_lt hx i)]
theorem uni_it_hi (k x i : Nat) : it (tf (uniN (4 * n1) M1 M2) k) i (4 * n1 + x) = 4 * n1 + it (tf M2 k) i x := by
  induction i with
  | zero => rfl
  | succ i ih =>
    show trn (uniN _ _ _ (it _ i _)) k = 4 * n1 + trn (M2 (it _ i x)) k
    rw [ih, uni_hi, trn_add]
theorem uni_selP (k : Nat) (q : Perm (tf M1 k) (4 * n1)) {p p1 p2 : Nat → Bool} {a b : Nat} (h1 : Cnt (SelP (tf M1 k) p1) (4 * n1) a) (h2 : Cnt (SelP (tf M2 k) p2) (4 * n2) b)
    (e1 : ∀ h, h < 4 * n1 → p h = p1 h) (e2 : ∀ x, x < 4 * n2 → p (4 * n1 + x) = p2 x) : Cnt (SelP (tf (uniN (4 * n1) M1 M2) k) p) (4 * (n1 + n2)) (a + b) := by
  rw [Nat.mul_add]
  refine (h1.congr fun x hx => ?_).add h2 fun x hx => ?_
  · unfold SelP
    rw [e1 x hx]
    refine and_congr_right fun _ => ⟨fun h h' hl hp o => ?_, fun h h' hl hp o => ?_⟩
    · obtain ⟨i, hi⟩ := o
      rw [uni_it_lo k q (by omega)] at hi
      exact h h' hl (by rw [← e1 h' (by omega)]; exact hp) ⟨i, hi⟩
    · obtain ⟨i, hi⟩ := o
      exact h h' hl (by rw [e1 h' (by omega)]; exact hp) ⟨i, by rw [uni_it_lo k q (by omega)]; exact hi⟩
  · unfold SelP
    rw [e2 x hx]
    refine and_congr_right fun _ => ⟨fun h h' hl hp o => ?_, fun h h' hl hp o => ?_⟩
    · obtain ⟨i, hi⟩ := o
      by_cases e : h' < 4 * n1
      · rw [uni_it_lo k q e] at hi
        have := q.it_lt e i
        omega
      · obtain ⟨y, rfl⟩ : ∃ y, h' = 4 * n1 + y := ⟨h' - 4 * n1, by omega⟩
        rw [uni_it_hi] at hi
        exact h y (by omega) (by rw [← e2 y (by omega)]; exact hp) ⟨i, by omega⟩
    · obtain ⟨i, hi⟩ := o
      exact h (4 * n1 + h') (by omega) (by rw [e2 h' (by omega)]; exact hp) ⟨i, by rw [uni_it_hi, hi]⟩
theorem uni_conn_lo {a b : Nat} (i1 : Invol M1 (4 * n1)) (h : Conn M1 (4 * n1) a b) : Conn (uniN (4 * n1) M1 M2) (4 * (n1 + n2)) a b := by
  induction h with
  | refl => exact .refl _
  | step j hj _ ih => rw [← uni_lo M1 M2 hj]; exact .step j (by omega) ih
  | back j hj _ ih => rw [← uni_lo M1 M2 hj] at ih; exact .back j (by omega) ih
theorem uni_conn_hi {a b : Nat} (h : Conn M2 (4 * n2) a b) : Conn (uniN (4 * n1) M1 M2) (4 * (n1 + n2)) (n1 + a) (n1 + b) := by
  induction h with
  | refl => exact .refl _
  | step j hj _ ih =>
    have h1 : n1 + j / 4 = (4 * n1 + j) / 4 := by omega
    have h2 : n1 + M2 j / 4 = uniN (4 * n1) M1 M2 (4 * n1 + j) / 4 := by rw [uni_hi]; omega
    rw [h1] at ih; rw [h2]
    exact .step _ (by omega) ih
  | back j hj _ ih =>
    have h1 : n1 + j / 4 = (4 * n1 + j) / 4 := by omega
    have h2 : n1 + M2 j / 4 = uniN (4 * n1) M1 M2 (4 * n1 + j) / 4 := by rw [uni_hi]; omega
    rw [h2] at ih; rw [h1]
    exact .back _ (by omega) ih
def uniF (n1 : Nat) (F1 F2 : Nat → Nat) (c : Nat) : Nat := if c < n1 then F1 c else n1 + F2 (c - n1)
theorem uniF_hi (n1 c : Nat) (F1 F2 : Nat → Nat) : uniF n1 F1 F2 (n1 + c) = n1 + F2 c := by unfold uniF; rw [if_neg (by omega), show n1 + c - n1 = c by omega]
theorem uniF_lo {n1 c : Nat} (F1 F2 : Nat → Nat) (h : c < n1) : uniF n1 F1 F2 c = F1 c := by unfold uniF; rw [if_pos h]
theorem uni_lab {F1 F2 : Nat → Nat} (i1 : Invol M1 (4 * n1)) (h1 : IsLab M1 (4 * n1) n1 F1) (h2 : IsLab M2 (4 * n2) n2 F2) : IsLab (uniN (4 * n1) M1 M2) (4 * (n1 + n2)) (n1 + n2) (uniF n1 F1 F2) := by
  refine ⟨fun c hc => ?_, fun h hh => ?_⟩
  · by_cases e : c < n1
    · rw [uniF_lo _ _ e]; exact ⟨(h1.1 c e).1, uni_conn_lo i1 (h1.1 c e).2⟩
    · obtain ⟨d, rfl⟩ : ∃ d, c = n1 + d := ⟨c - n1, by omega⟩
      rw [uniF_hi]
      exact ⟨by have := (h2.1 d (by omega)).1; omega, uni_conn_hi (h2.1 d (by omega)).2⟩
  · by_cases e : h < 4 * n1
    · have := i1.lt h e
      rw [uni_lo _ _ e, uniF_lo _ _ (by omega), uniF_lo _ _ (by omega)]; exact h1.2 h e
    · obtain ⟨x, rfl⟩ : ∃ x, h = 4 * n1 + x := ⟨h - 4 * n1, by omega⟩
      rw [uni_hi, show (4 * n1 + x) / 4 = n1 + x / 4 by omega, show (4 * n1 + M2 x) / 4 = n1 + M2 x / 4 by omega, uniF_hi, uniF_hi, h2.2 x (by omega)]
theorem uni_roots (F1 F2 : Nat → Nat) : rootsN (uniF n1 F1 F2) (n1 + n2) = rootsN F1 n1 + rootsN F2 n2 := by
  unfold rootsN
  have h1 := Cnt.countP (fun l => F1 l == l) n1
  have h2 := Cnt.countP (fun l => F2 l == l) n2
  have h3 := Cnt.countP (fun l => uniF n1 F1 F2 l == l) (n1 + n2)
  refine h3.uniq ((h1.congr fun x hx => by rw [uniF_lo _ _ hx]).add h2 fun x _ => ?_)
  rw [uniF_hi]
  simp
theorem rootsN_lab {m F G : Nat → Nat} {n : Nat} (h : IsLab m (4 * n) n F) (k : IsLab m (4 * n) n G) : rootsN F n = rootsN G n := by
  unfold rootsN
  exact List.countP_congr fun c hc => by rw [h.unique k c (by simpa using hc)]
theorem ufl_le (m : Nat → Nat) (N c : Nat) : ufLab m N c ≤ c := root_le _ _
theorem ufl_idem (m : Nat → Nat) (N c : Nat) : ufLab m N (ufLab m N c) = ufLab m N c := root_root _ _
theorem uni_sph (i1 : Invol M1 (4 * n1)) (i2 : Invol M2 (4 * n2)) (f1 : ∀ x, x < 4 * n1 → M1 x ≠ x) (f2 : ∀ x, x < 4 * n2 → M2 x ≠ x)
    (s1 : sphB (ufLab M1 (4 * n1)) (tf M1 3) (4 * n1) n1 = true) (s2 : sphB (ufLab M2 (4 * n2)) (tf M2 3) (4 * n2) n2 = true) :
    sphB (ufLab (uniN (4 * n1) M1 M2) (4 * (n1 + n2))) (tf (uniN (4 * n1) M1 M2) 3) (4 * (n1 + n2)) (n1 + n2) = true := by
  have i := uni_invol i1 i2
  have hl := ufLab_isLab (uniN (4 * n1) M1 M2) (4 * (n1 + n2)) (n1 + n2)
  refine sph_of_total i (uni_fix f1 f2) hl (ufl_le _ _) (ufl_idem _ _) ?_
  have e1 := euler_all s1 (ufl_le _ _) (ufl_idem _ _)
  have e2 := euler_all s2 (ufl_le _ _) (ufl_idem _ _)
  have hc := uni_selP (p := fun _ => true) 3 (i1.perm 3) (selP_faces (i1.perm 3)) (selP_faces (i2.perm 3)) (fun _ _ => rfl) (fun _ _ => rfl)
  have e3 := (selP_faces (i.perm 3)).uniq hc
  rw [rootsN_lab hl (uni_lab i1 (ufLab_isLab M1 (4 * n1) n1) (ufLab_isLab M2 (4 * n2) n2)), uni_roots]
  rw [e3]
  show (List.range (4 * n1)).countP (fst (tf M1 3) (4 * n1)) + (List.range (4 * n2)).countP (fst (tf M2 3) (4 * n2)) = _
  rw [e1, e2]; omega
theorem uni_apart (i1 : Invol M1 (4 * n1)) {x y : Nat} (hx : x < 4 * n1) : ¬ labR (ufLab (uniN (4 * n1) M1 M2) (4 * (n1 + n2))) (n1 + n2) x (4 * n1 + y) := fun ⟨h1, h2, h3⟩ => by
  have hl := ufLab_isLab (uniN (4 * n1) M1 M2) (4 * (n1 + n2)) (n1 + n2)
  have hu := uni_lab i1 (ufLab_isLab M1 (4 * n1) n1) (ufLab_isLab M2 (4 * n2) n2)
  rw [hl.unique hu _ (by omega), hl.unique hu _ (by omega), uniF_lo _ _ (by omega), show (4 * n1 + y) / 4 = n1 + y / 4 by omega, uniF_hi] at h3
  have := ufl_le M1 (4 * n1) (x / 4)
  omega
end

end Go.Proofs.Ytkfjledhnakfoaa
