/- Plain facts about a valid diagram: the sides of its edges; what spoils it. -/
import Derived.Test.YtcngpnhecgppiaaValid
import Derived.Test.YtcngpnhecgppiaaFaces
import Derived.Test.YtcngpnhecgppiaaPlane4Plain
namespace Go.Proofs.Ytcngpnhecgppiaa
open Go.RowKit

theorem lab_data {m : Nat → Nat} {n : Nat} (i : Invol m (4 * n)) :
    Eqv (fun x y => x < 4 * n ∧ y < 4 * n ∧ ufLab m (4 * n) (x / 4) = ufLab m (4 * n) (y / 4)) (4 * n) ∧ (∀ x, x < 4 * n → x < 4 * n ∧ m x < 4 * n ∧ ufLab m (4 * n) (x / 4) = ufLab m (4 * n) (m x / 4)) ∧
    ∀ C, Eqv C (4 * n) → (∀ x y, x < 4 * n → y < 4 * n → x / 4 = y / 4 → C x y) → (∀ x, x < 4 * n → C x (m x)) → ∀ x y, (x < 4 * n ∧ y < 4 * n ∧ ufLab m (4 * n) (x / 4) = ufLab m (4 * n) (y / 4)) → C x y := by
  have hlab := ufLab_isLab m (4 * n) n
  generalize ufLab m (4 * n) = F at *
  refine ⟨⟨fun x y q => ⟨q.1, q.2.1⟩, fun x hx => ⟨hx, hx, rfl⟩, fun x y q => ⟨q.2.1, q.1, q.2.2.symm⟩, fun x y z q r => ⟨q.1, r.2.1, q.2.2.trans r.2.2⟩⟩, fun x hx => ⟨hx, i.lt x hx, hlab.2 x hx⟩, ?_⟩
  intro C hC h1 h2 x y hd
  have key : ∀ {a b : Nat}, Conn m (4 * n) a b → a < n → b < n ∧ C (4 * a) (4 * b) := by
    intro a b hc ha
    induction hc with
    | refl => exact ⟨ha, hC.refl _ (by omega)⟩
    | step z hz _ ih =>
      have hm := i.lt z hz
      exact ⟨by omega, hC.trans _ _ _ ih.2 (hC.trans _ _ _ (h1 _ z (by omega) hz (by omega)) (hC.trans _ _ _ (h2 z hz) (h1 _ _ hm (by omega) (by omega))))⟩
    | back z hz _ ih =>
      have hm := i.lt z hz
      exact ⟨by omega, hC.trans _ _ _ ih.2 (hC.trans _ _ _ (h1 _ (m z) (by omega) hm (by omega)) (hC.trans _ _ _ (hC.symm _ _ (h2 z hz)) (h1 _ _ hz (by omega) (by omega))))⟩
  obtain ⟨hx, hy, e⟩ := hd
  have c1 := (hlab.1 (x / 4) (by omega)).2
  have c2 := (hlab.1 (y / 4) (by omega)).2
  rw [e] at c1
  have := (key (c1.trans c2.symm) (by omega)).2
  exact hC.trans _ _ _ (h1 x _ hx (by omega) (by omega)) (hC.trans _ _ _ this (h1 _ y (by omega) hy (by omega)))

/-- What validity gives of the mates. -/
theorem valid_data {signs mate : List Int} {lp : Int} (hv : validB signs mate lp = true) : ∃ n, signs.length = n ∧ mate.length = 4 * n ∧ Invol (matesOf mate) (4 * n) ∧ (∀ x, x < 4 * n → matesOf mate x ≠ x) ∧
    sphB (ufLab (matesOf mate) (4 * n)) (fun x => trn (matesOf mate x) 3) (4 * n) n = true := by
  obtain ⟨v1, v2, v3, v4⟩ := validB_out hv
  obtain ⟨l1, l2, l3, l4⟩ := limB_out v1
  have hi := matesOf_invol v3 l2
  refine ⟨signs.length, rfl, l2, hi, fun x hx e => ?_, ?_⟩
  · obtain ⟨m, h1, h2, h3, h4⟩ := pOK_out ((pairB_iff _ _).1 v3 x (by omega)) l2
    have e2 : matesOf mate x = m := by unfold matesOf; rw [h1]; simp
    rw [e2] at e
    rw [e] at h4
    exact h4 rfl
  · unfold sphM at v4
    rw [l2] at v4
    exact v4
theorem sides_valid {signs mate : List Int} {lp : Int} (hv : validB signs mate lp = true) (h : Nat) (hh : h < mate.length) : ¬ Orb (fun x => trn (matesOf mate x) 3) h (matesOf mate h) := by
  obtain ⟨n, h1, h2, hi, hf, hs⟩ := valid_data hv
  exact sides_sph hi hf hs h (by omega)
theorem no_loop_valid {signs mate : List Int} {lp : Int} (hv : validB signs mate lp = true) (c : Nat) (hc : c < signs.length) : matesOf mate (4 * c + 1) ≠ 4 * c + 3 := by
  obtain ⟨n, h1, h2, hi, hf, hs⟩ := valid_data hv
  obtain ⟨a1, a2, a3⟩ := lab_data hi
  exact no_loop (c0 := c) hi hf a1 (fun x y hx hy e => ⟨hx, hy, by rw [e]⟩) a2 a3 (cls_orb (hi.perm 3)) (cls_lab (fun c => root_le _ _) (fun c => root_root _ _)) (euler_all hs (fun c => root_le _ _) (fun c => root_root _ _)) (by omega)

theorem getD_set_same {xs : List Int} {c : Nat} (z : Int) (hc : c < xs.length) : (xs.set c z).getD c 0 = z := by simp [List.getD, hc]
theorem getD_set_other {xs : List Int} {c d : Nat} (z : Int) (h : d ≠ c) : (xs.set c z).getD d 0 = xs.getD d 0 := by simp [List.getD, List.getElem?_set_ne (Ne.symm h)]
/-- A sign turned: not valid. -/
theorem spoil_sign {signs mate : List Int} {lp : Int} (hv : validB signs mate lp = true) (c : Nat) (hc : c < signs.length) : validB (signs.set c (-(signs.getD c 0))) mate lp = false := by
  obtain ⟨v1, v2, v3, v4⟩ := validB_out hv
  obtain ⟨l1, l2, l3, l4⟩ := limB_out v1
  have hnl := no_loop_valid hv c hc
  have hsg := (sgnsB_iff _).1 v2 c hc
  obtain ⟨m, h1, h2, h3, h4⟩ := pOK_out ((pairB_iff _ _).1 v3 (4 * c + 1) (by omega)) l2
  have em : matesOf mate (4 * c + 1) = m := by unfold matesOf; rw [h1]; simp
  rw [em] at hnl
  have hne : m ≠ 4 * c + 1 := fun e => by rw [e] at h4; exact h4 rfl
  have o1 : outB (signs.set c (-(signs.getD c 0))) (4 * c + 1) = !outB signs (4 * c + 1) := by
    unfold outB
    rw [if_pos (by omega), if_pos (by omega), show (4 * c + 1) / 4 = c by omega, getD_set_same _ hc]
    generalize signs.getD c 0 = s at hsg ⊢
    unfold sgB at hsg
    simp only [Bool.or_eq_true, beq_iff_eq] at hsg
    rcases hsg with e | e <;> subst e <;> rfl
  have o2 : outB (signs.set c (-(signs.getD c 0))) m = outB signs m := by
    unfold outB
    by_cases hd : m / 4 = c
    · have h0 : m % 4 = 0 ∨ m % 4 = 2 := by omega
      rcases h0 with e | e <;> rw [e] <;> rfl
    · rw [getD_set_other _ hd]
  have hp : pOK (signs.set c (-(signs.getD c 0))) mate (4 * c + 1) = false := by
    unfold pOK
    rw [h1]
    simp only [Int.toNat_natCast]
    rw [o1, o2]
    have : (!outB signs (4 * c + 1)) = outB signs m := by
      cases a : outB signs (4 * c + 1) <;> cases b : outB signs m <;> simp_all
    rw [this]; simp
  have hpb : pairB (signs.set c (-(signs.getD c 0))) mate = false := by
    cases e : pairB (signs.set c (-(signs.getD c 0))) mate with
    | false => rfl
    | true => rw [(pairB_iff _ _).1 e (4 * c + 1) (by omega)] at hp; cases hp
  unfold validB
  rw [hpb]; simp
/-- A sign that is 0: not valid. -/
theorem spoil_zero {signs mate : List Int} {lp : Int} (c : Nat) (hc : c < signs.length) : validB (signs.set c 0) mate lp = false := by
  have : sgnsB (signs.set c 0) = false := by
    cases e : sgnsB (signs.set c 0) with
    | false => rfl
    | true =>
      have := (sgnsB_iff _).1 e c (by simpa using hc)
      rw [getD_set_same _ hc] at this
      cases this
  unfold validB
  rw [this]; simp
theorem spoil_short {signs mate mate' : List Int} {lp : Int} (hv : validB signs mate lp = true) (hl : mate'.length + 1 = mate.length) : validB signs mate' lp = false := by
  obtain ⟨v1, v2, v3, v4⟩ := validB_out hv
  obtain ⟨l1, l2, l3, l4⟩ := limB_out v1
  have : limB signs.length mate'.length lp = false := by
    unfold limB
    have : decide (mate'.length = 4 * signs.length) = false := by simp; omega
    rw [this]; simp
  unfold validB
  rw [this]; simp
theorem spoil_many {signs mate : List Int} : validB signs mate 65 = false := by
  unfold validB limB; simp

end Go.Proofs.Ytcngpnhecgppiaa
