/- Plain: an exchange of the ends of two edges of different strands joins the two strands; the connected sum of two valid diagrams is valid, and has one component less than both together. -/
import Derived.Test.YtkfjledhnakfoaaBCnUniVal
import Derived.Test.YtkfjledhnakfoaaA15
namespace Go.Proofs.Ytkfjledhnakfoaa
open Go.RowKit

/-- The step along the strands, on some half-edges only. -/
def fo (f : Nat → Nat) (p : Nat → Bool) (h : Nat) : Nat := if p h = true then f h else h
theorem Cnt.either {P Q : Nat → Prop} {N a b : Nat} (h : Cnt P N a) (g : Cnt Q N b) (d : ∀ x, x < N → P x → ¬ Q x) : Cnt (fun x => P x ∨ Q x) N (a + b) := by
  induction h generalizing b with
  | zero => cases g; exact .zero
  | yes hp _ ih =>
    cases g with
    | yes hq _ => exact absurd hq (d _ (by omega) hp)
    | no hq g' =>
      have := Cnt.yes (p := fun x => P x ∨ Q x) (.inl hp) (ih g' fun x hx => d x (by omega))
      rwa [show ∀ k j : Nat, k + j + 1 = k + 1 + j from fun k j => by omega] at this
  | no hp _ ih =>
    cases g with
    | yes hq g' => exact Cnt.yes (p := fun x => P x ∨ Q x) (.inr hq) (ih g' fun x hx => d x (by omega))
    | no hq g' => exact Cnt.no (p := fun x => P x ∨ Q x) (fun e => e.elim hp hq) (ih g' fun x hx => d x (by omega))
section
variable {f : Nat → Nat} {N : Nat} {p : Nat → Bool}
theorem fo_perm (q : Perm f N) (c : ∀ h, h < N → p h = true → p (f h) = true) : Perm (fo f p) N := by
  refine ⟨fun h hh => ?_, fun h g hh hg e => ?_⟩
  · unfold fo; split
    · exact q.lt h hh
    · exact hh
  · unfold fo at e
    split at e
    · rename_i h1
      split at e
      · exact q.inj h g hh hg e
      · rename_i h2
        exact absurd (by rw [← e]; exact c h hh h1) h2
    · rename_i h1
      split at e
      · rename_i h2
        exact absurd (by rw [e]; exact c g hg h2) h1
      · exact e
theorem fo_it (q : Perm f N) (c : ∀ h, h < N → p h = true → p (f h) = true) {h : Nat} (hh : h < N) (hp : p h = true) (i : Nat) : it (fo f p) i h = it f i h ∧ p (it f i h) = true := by
  induction i with
  | zero => exact ⟨rfl, hp⟩
  | succ i ih =>
    obtain ⟨e, e2⟩ := ih
    refine ⟨?_, c _ (q.it_lt hh i) e2⟩
    show fo f p (it (fo f p) i h) = f (it f i h)
    rw [e]; unfold fo; rw [if_pos e2]
theorem fo_fix {h : Nat} (hp : ¬ p h = true) (i : Nat) : it (fo f p) i h = h := by
  induction i with
  | zero => rfl
  | succ i ih =>
    show fo f p (it (fo f p) i h) = h
    rw [ih]; unfold fo; rw [if_neg hp]
theorem fo_cls (q : Perm f N) (c : ∀ h, h < N → p h = true → p (f h) = true) : Cls (RO' (fo f p) N) N ((cycL f N p N).length + (List.range N).countP fun h => !p h) := by
  have h1 := selP_count q p
  have h2 := Cnt.countP (fun h => !p h) N
  have h3 := h1.either h2 (fun x _ hx hn => by have := hx.1; rw [this] at hn; simp at hn)
  refine h3.congr fun h hh => ?_
  constructor
  · rintro (⟨hp, hs⟩ | hn)
    · rintro g hg ⟨hgN, i, e⟩
      by_cases hpg : p g = true
      · rw [(fo_it q c hgN hpg i).1] at e
        exact hs g hg hpg ⟨i, e⟩
      · rw [fo_fix hpg] at e; omega
    · rintro g hg ⟨hgN, i, e⟩
      by_cases hpg : p g = true
      · have := fo_it q c hgN hpg i
        rw [← this.1, e] at this
        rw [this.2] at hn; simp at hn
      · rw [fo_fix hpg] at e; omega
  · intro hs
    by_cases hp : p h = true
    · exact .inl ⟨hp, fun g hg hpg ⟨i, e⟩ => hs g hg ⟨by omega, i, by rw [(fo_it q c (by omega) hpg i).1]; exact e⟩⟩
    · exact .inr (by simpa using hp)
end
section
variable {M : Nat → Nat} {n x y : Nat} {out : Nat → Bool}
/-- The exchange at two outgoing half-edges of different strands: one strand less. -/
theorem strand_join (T : Two M (4 * n) x y) (io : ∀ h, h < 4 * n → out (M h) = !out h) (ht : ∀ h, h < 4 * n → out (trn h 2) = !out h) (hx : out x = true) (hy : out y = true) (hne : ¬ Orb (Go.Proofs.Ytkfjledhnakfoaa.tf M 2) x y) :
    (cycL (Go.Proofs.Ytkfjledhnakfoaa.tf M 2) (4 * n) out (4 * n)).length = (cycL (Go.Proofs.Ytkfjledhnakfoaa.tf (exN M x y) 2) (4 * n) out (4 * n)).length + 1 := by
  obtain ⟨f1, f2, f3, f4, l1, l2, v1, v2⟩ := T.far
  have i' := T.invol
  have p1 : Perm (Go.Proofs.Ytkfjledhnakfoaa.tf M 2) (4 * n) := T.i.perm 2
  have p2 : Perm (Go.Proofs.Ytkfjledhnakfoaa.tf (exN M x y) 2) (4 * n) := i'.perm 2
  have oMx : out (M x) = false := by rw [io x T.hx, hx]; rfl
  have oMy : out (M y) = false := by rw [io y T.hy, hy]; rfl
  have c1 : ∀ h, h < 4 * n → out h = true → out (Go.Proofs.Ytkfjledhnakfoaa.tf M 2 h) = true := fun h hh ho => by
    show out (trn (M h) 2) = true
    rw [ht _ (T.i.lt h hh), io h hh, ho]; rfl
  have c2 : ∀ h, h < 4 * n → out h = true → out (Go.Proofs.Ytkfjledhnakfoaa.tf (exN M x y) 2 h) = true := fun h hh ho => by
    show out (trn (exN M x y h) 2) = true
    rw [ht _ (i'.lt h hh)]
    rcases T.cases h with ⟨e', e⟩ | ⟨e', e⟩ | ⟨e', e⟩ | ⟨e', e⟩ | ⟨_, _, _, _, e⟩
    · rw [e, oMy]; rfl
    · rw [e, oMx]; rfl
    · rw [e', oMx] at ho; cases ho
    · rw [e', oMy] at ho; cases ho
    · rw [e, io h hh, ho]; rfl
  have hk := fo_cls p1 c1
  have hj := fo_cls p2 c2
  have e : fo (Go.Proofs.Ytkfjledhnakfoaa.tf (exN M x y) 2) out = swf (fo (Go.Proofs.Ytkfjledhnakfoaa.tf M 2) out) x y := by
    funext h
    unfold swf
    rcases T.cases h with ⟨e', e⟩ | ⟨e', e⟩ | ⟨e', e⟩ | ⟨e', e⟩ | ⟨h1, h2, h3, h4, e⟩
    · rw [e', sw_left]; unfold fo
      rw [if_pos hx, if_pos hy]
      show trn (exN M x y x) 2 = trn (M y) 2
      rw [T.at.1]
    · rw [e', sw_right]; unfold fo
      rw [if_pos hx, if_pos hy]
      show trn (exN M x y y) 2 = trn (M x) 2
      rw [T.at.2.1]
    · have a1 : h ≠ x := by rw [e']; exact f1
      have a2 : h ≠ y := by rw [e']; exact fun q => T.nm q.symm
      rw [sw_other a1 a2]; unfold fo
      rw [e', oMx]; simp
    · have a1 : h ≠ x := by rw [e']; exact fun q => f4 q.symm
      have a2 : h ≠ y := by rw [e']; exact f2
      rw [sw_other a1 a2]; unfold fo
      rw [e', oMy]; simp
    · rw [sw_other h1 h2]; unfold fo
      show (if out h = true then trn (exN M x y h) 2 else h) = if out h = true then trn (M h) 2 else h
      rw [e]
  rw [e] at hj
  have hab : ¬ Orb (fo (Go.Proofs.Ytkfjledhnakfoaa.tf M 2) out) x y := fun ⟨i, q⟩ => hne ⟨i, by rw [← (fo_it p1 c1 T.hx hx i).1]; exact q⟩
  have := cls_join (fo_perm p1 c1) T.hx T.hy hab hk hj
  omega
end

/-- The other side of a strand's passage. -/
theorem out_trn2 {s : List Int} {n : Nat} (hs : sgnsB s = true) (hl : s.length = n) (h : Nat) (hh : h < 4 * n) : outB s (trn h 2) = !outB s h := by
  have hsg := (sgnsB_iff s).1 hs (h / 4) (by omega)
  have hd : trn h 2 / 4 = h / 4 := trn_div h 2
  have hm : trn h 2 % 4 = (h % 4 + 2) % 4 := by unfold trn; omega
  unfold outB
  rw [hd, hm]
  have h4 : h % 4 = 0 ∨ h % 4 = 1 ∨ h % 4 = 2 ∨ h % 4 = 3 := by omega
  have hv : s.getD (h / 4) 0 = 1 ∨ s.getD (h / 4) 0 = -1 := by
    unfold sgB at hsg
    simpa using hsg
  rcases h4 with e | e | e | e <;> rw [e] <;> rcases hv with v | v <;> rw [v] <;> decide
section
variable {s1 m1 s2 m2 : List Int} {l1 l2 : Int} {x y : Nat}
theorem sum_both (hv1 : validB s1 m1 l1 = true) (hv2 : validB s2 m2 l2 = true) (hn : s1.length + s2.length ≤ 64) (hl : l1 + l2 ≤ 64) (hx : x < m1.length) (hy : y < m2.length) (ox : outB s1 x = true) (oy : outB s2 y = true) :
    validB (s1 ++ s2) (exL (bsM m1 m2) x (m1.length + y)) (l1 + l2) = true ∧ compM (s1 ++ s2) (exL (bsM m1 m2) x (m1.length + y)) (l1 + l2) = compM s1 m1 l1 + compM s2 m2 l2 - 1 := by
  have hvU := uni_valid hv1 hv2 hn hl
  have hcU := uni_comp hv1 hv2 hn hl
  obtain ⟨a1, ai, _, _, _, a6, _, _, _⟩ := uv_data hv1 rfl
  obtain ⟨b1, bi, _, _, _, b6, _, _, _⟩ := uv_data hv2 rfl
  obtain ⟨q1, q2⟩ := uv_len hv1 hv2
  obtain ⟨n1, hn1⟩ : ∃ n1, s1.length = n1 := ⟨_, rfl⟩
  obtain ⟨n2, hn2⟩ : ∃ n2, s2.length = n2 := ⟨_, rfl⟩
  obtain ⟨o1, o2⟩ := uv_out (s1 := s1) (s2 := s2) hn1
  rw [hn1] at a1 ai a6 hn q1 q2
  rw [hn2] at b1 bi b6 hn q1 q2
  rw [a1] at hx ⊢
  rw [b1] at hy
  obtain ⟨n, hnn⟩ : ∃ n, n1 + n2 = n := ⟨_, rfl⟩
  have hmt0 := uv_mt a1 b1 a6 b6
  rw [hnn] at hn q1 q2 hmt0
  obtain ⟨_, i, _, u4, u5, u6, u7, u8, u9⟩ := uv_data hvU q1
  have hme : ∀ h, h < 4 * n → matesOf (bsM m1 m2) h = uniN (4 * n1) (matesOf m1) (matesOf m2) h := fun h hh => by
    unfold matesOf at hmt0 ⊢
    rw [hmt0 h hh]; simp
  obtain ⟨M, hM⟩ : ∃ M, matesOf (bsM m1 m2) = M := ⟨_, rfl⟩
  rw [hM] at i u5 u6 u7 hme
  obtain ⟨S, hS⟩ : ∃ S, s1 ++ s2 = S := ⟨_, rfl⟩
  rw [hS] at hvU hcU q1 u4 u5 o1 o2 ⊢
  have ox' : outB S x = true := by rw [o1 x hx]; exact ox
  have oy' : outB S (4 * n1 + y) = true := by rw [o2]; exact oy
  have hz : 4 * n1 + y < 4 * n := by omega
  have hxn : x < 4 * n := by omega
  have hMx : M x < 4 * n1 := by rw [hme x hxn, uni_lo _ _ hx]; exact ai.lt x hx
  have T : Two M (4 * n) x (4 * n1 + y) := ⟨i, fun h hh e => u5 h hh (by rw [e]), hxn, hz, by omega, by omega⟩
  have i' := T.invol
  obtain ⟨t1, t2, t3, t4, t5⟩ := T.at
  have hle : (exL (bsM m1 m2) x (4 * n1 + y)).length = 4 * n := by rw [exL_length]; exact q2
  have hxm := exL_mates (x := x) (y := 4 * n1 + y) q2 hxn hz (fun h hh => ⟨by rw [hM]; exact u6 h hh, by rw [hM]; exact i.lt h hh⟩)
  rw [hM] at hxm
  obtain ⟨X, hX⟩ : ∃ X, exL (bsM m1 m2) x (4 * n1 + y) = X := ⟨_, rfl⟩
  rw [hX] at hle hxm ⊢
  obtain ⟨z, hze⟩ : ∃ z, 4 * n1 + y = z := ⟨_, rfl⟩
  have hap : ¬ labR (ufLab M (4 * n)) n x z := by
    rw [uv_lab hme, ← hze]
    have := uni_apart (M1 := matesOf m1) (M2 := matesOf m2) (n1 := n1) (n2 := n2) ai hx (y := y)
    rw [hnn] at this; exact this
  rw [hze] at T i' t1 t2 t3 t4 t5 hxm oy' hz
  have hmX : ∀ h, h < 4 * n → matesOf X h = exN M x z h := fun h hh => by
    show (X.getD h 0).toNat = _
    rw [hxm h hh]; simp
  have io : ∀ h, h < 4 * n → outB S (M h) = !outB S h := fun h hh => by
    have := u5 h hh
    cases e1 : outB S h <;> cases e2 : outB S (M h) <;> simp [e1, e2] at this ⊢
  have hou : ∀ h, h < 4 * n → outB S h ≠ outB S (exN M x z h) := fun h hh => by
    have j1 := io x hxn
    have j2 := io z hz
    rw [ox'] at j1
    rw [oy'] at j2
    rcases T.cases h with ⟨e', e⟩ | ⟨e', e⟩ | ⟨e', e⟩ | ⟨e', e⟩ | ⟨_, _, _, _, e⟩
    · rw [e, e', ox', j2]; simp
    · rw [e, e', oy', j1]; simp
    · rw [e, e', j1, oy']; simp
    · rw [e, e', j2, ox']; simp
    · rw [e]; exact u5 h hh
  have e1 : limB S.length X.length (l1 + l2) = true := by
    rw [q1, hle]; unfold limB; simp [hn, u8, u9]
  have e3 : pairB S X = true := (pairB_iff _ _).2 fun k hk => by
    rw [hle] at hk
    have h1 := i'.lt k hk
    have h2 := i'.inv k hk
    have h3 : mt X k = (exN M x z k : Nat) := hxm k hk
    have h4 := hou k hk
    obtain ⟨u, hu⟩ : ∃ u, exN M x z k = u := ⟨_, rfl⟩
    rw [hu] at h1 h2 h3 h4
    have h5 : mt X u = (exN M x z u : Nat) := hxm u h1
    rw [h2] at h5
    unfold pOK
    rw [h3, hle]
    simp only [Int.toNat_natCast]
    have c1 : decide ((0 : Int) ≤ ((u : Nat) : Int)) = true := decide_eq_true (Int.natCast_nonneg _)
    have c2 : decide (((u : Nat) : Int) < ((4 * n : Nat) : Int)) = true := decide_eq_true (by omega)
    have c3 : decide (mt X u = ((k : Nat) : Int)) = true := decide_eq_true h5
    have c4 : (outB S k != outB S u) = true := by simp only [bne_iff_ne, ne_eq]; exact h4
    rw [c1, c2, c3, c4]; rfl
  have e4 : sphM X S.length = true := by
    unfold sphM
    rw [q1, hle, uv_lab hmX]
    have hp : Perm (tf (exN M x z) 3) (4 * n) := i'.perm 3
    have := (T.sum u7 hap).1
    rw [uv_sph (g := ff (matesOf X)) hp (fun k hk => by show trn _ 3 = trn _ 3; rw [hmX k hk])] at this
    exact this
  have hvX : validB S X (l1 + l2) = true := by unfold validB; rw [e1, u4, e3, e4]; rfl
  refine ⟨hvX, ?_⟩
  rw [← hcU, compM_add hvX, compM_add hvU]
  have hne : ¬ Orb (tf M 2) x z := fun ⟨k, hk⟩ => by
    have hp0 : Perm (tf M 2) (4 * n) := i.perm 2
    have hp1 : Perm (tf (matesOf m1) 2) (4 * n1) := ai.perm 2
    have ee := uv_it (g := tf (uniN (4 * n1) (matesOf m1) (matesOf m2)) 2) hp0 (fun k hk => by show trn _ 2 = trn _ 2; rw [hme k hk]) hxn k
    rw [ee, uni_it_lo 2 hp1 hx] at hk
    have := hp1.it_lt hx k
    omega
  have hj := strand_join T io (fun h hh => out_trn2 u4 q1 h hh) ox' oy' hne
  have hpX : Perm (fs (matesOf X)) (4 * n) := by
    have hp2 : Perm (tf (exN M x z) 2) (4 * n) := i'.perm 2
    have eX : ∀ k, k < 4 * n → tf (exN M x z) 2 k = fs (matesOf X) k := fun k hk => by show trn _ 2 = trn _ 2; rw [hmX k hk]
    refine ⟨fun h hh => ?_, fun h g hh hg e => ?_⟩
    · rw [← eX h hh]; exact hp2.lt h hh
    · rw [← eX h hh, ← eX g hg] at e; exact hp2.inj h g hh hg e
  have c4 := selP_count hpX (outB S)
  have c5 : Cnt (SelP (fs (matesOf X)) (outB S)) (4 * n) (cycL (tf (exN M x z) 2) (4 * n) (outB S) (4 * n)).length := by
    have hp2 : Perm (tf (exN M x z) 2) (4 * n) := i'.perm 2
    have eX : ∀ k, k < 4 * n → tf (exN M x z) 2 k = fs (matesOf X) k := fun k hk => by show trn _ 2 = trn _ 2; rw [hmX k hk]
    refine (selP_count hp2 (outB S)).congr fun k hk => ?_
    unfold SelP Orb
    constructor
    · rintro ⟨h1, h2⟩
      exact ⟨h1, fun h' hl ho ⟨i, e⟩ => h2 h' hl ho ⟨i, by rw [uv_it hp2 eX (by omega)]; exact e⟩⟩
    · rintro ⟨h1, h2⟩
      exact ⟨h1, fun h' hl ho ⟨i, e⟩ => h2 h' hl ho ⟨i, by rw [← uv_it hp2 eX (by omega)]; exact e⟩⟩
  have c6 := c4.uniq c5
  have t0 : (strandsM S X (l1 + l2)).length = (cycL (fs (matesOf X)) (4 * n) (outB S) (4 * n)).length := by simp [strandsM, hvX, hle]
  have t1 : (strandsM S (bsM m1 m2) (l1 + l2)).length = (cycL (tf M 2) (4 * n) (outB S) (4 * n)).length := by simp only [strandsM, hvU, q2, hM]; rfl
  rw [t0, t1, c6, hj]
  omega
end

end Go.Proofs.Ytkfjledhnakfoaa
