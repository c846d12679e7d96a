/- The renumbered diagram is valid; the rows of its faces, strands and components are as many of each length. -/
import Derived.Test.YtcllnoigppkjiaaRen2Plain
import Derived.Test.YtcllnoigppkjiaaDv
import Derived.Test.YtcllnoigppkjiaaInts
namespace Go.Proofs.Ytcllnoigppkjiaa
open Go.RowKit

theorem newH_div (o : List Int) (n x : Nat) : newH o n x / 4 = invN o n (x / 4) ∧ newH o n x % 4 = x % 4 := by unfold newH; omega
theorem outB_ren {signs o : List Int} {n : Nat} (h : IsOrd o n) {x : Nat} (hx : x < 4 * n) : outB (renS signs o n) (newH o n x) = outB signs x := by
  obtain ⟨h1, h2⟩ := newH_div o n x
  have h3 := ord_invN h (c := x / 4) (by omega)
  unfold outB
  rw [h1, h2, renS_get h3.2, h3.1]
/-- What a valid diagram gives, at once. -/
theorem ren_data {signs mate : List Int} {lp : Int} {n : Nat} (hv : validB signs mate lp = true) (hl : signs.length = n) :
    mate.length = 4 * n ∧ Invol (matesOf mate) (4 * n) ∧ n ≤ 64 ∧ sgnsB signs = true ∧ (∀ x, x < 4 * n → outB signs x ≠ outB signs (matesOf mate x)) ∧ (∀ x, x < 4 * n → mt mate x = (matesOf mate x : Nat)) ∧ sphB (ufLab (matesOf mate) (4 * n)) (fun x => trn (matesOf mate x) 3) (4 * n) n = true ∧ 0 ≤ lp ∧ lp ≤ 64 := by
  obtain ⟨v1, v2, v3, v4⟩ := validB_out hv
  obtain ⟨l1, l2, l3, l4⟩ := limB_out v1
  rw [hl] at l1 l2
  refine ⟨l2, ?_, l1, v2, fun x hx => ?_, fun x hx => ?_, ?_, l3, l4⟩
  · have := matesOf_invol v3 l2; exact this
  · obtain ⟨m, h1, h2, h3, h4⟩ := pOK_out ((pairB_iff _ _).1 v3 x (by omega)) l2
    have e : matesOf mate x = m := by unfold matesOf; rw [h1]; simp
    rw [e]; exact h4
  · exact (matesOf_mates v3 l2 x hx).1
  · unfold sphM at v4
    rw [l2, hl] at v4
    exact v4
theorem matesOf_ren {signs mate o : List Int} {lp : Int} {n : Nat} (hv : validB signs mate lp = true) (hl : signs.length = n) (ho : IsOrd o n) : Ren o n (matesOf mate) (matesOf (renM (matesOf mate) o n)) := by
  obtain ⟨_, d2, _⟩ := ren_data hv hl
  exact ⟨ho, d2, fun x hx => by unfold matesOf mt; rw [renM_get hx]; simp⟩
theorem validB_ren {signs mate o : List Int} {lp : Int} {n : Nat} (hv : validB signs mate lp = true) (hl : signs.length = n) (ho : IsOrd o n) : validB (renS signs o n) (renM (matesOf mate) o n) lp = true := by
  have r := matesOf_ren hv hl ho
  obtain ⟨d1, d2, d3, d4, d5, d6, d7, d8, d9⟩ := ren_data hv hl
  have ri := r.inv'
  have hsph := r.sph d7
  have hmt : ∀ x, x < 4 * n → mt (renM (matesOf mate) o n) x = (matesOf (renM (matesOf mate) o n) x : Nat) := fun x hx => by
    unfold matesOf mt; rw [renM_get hx]; simp
  have e1 : limB (renS signs o n).length (renM (matesOf mate) o n).length lp = true := by
    rw [renS_length, renM_length]; unfold limB; simp [d3, d8, d9]
  have e2 : sgnsB (renS signs o n) = true := (sgnsB_iff _).2 fun c hc => by
    rw [renS_length] at hc
    rw [renS_get hc]
    exact (sgnsB_iff _).1 d4 _ (by rw [hl]; exact (ordN_cast ho.2 hc).2)
  have e3 : pairB (renS signs o n) (renM (matesOf mate) o n) = true := (pairB_iff _ _).2 fun x hx => by
    rw [renM_length] at hx
    have h1 := ri.lt x hx
    have h2 := ri.inv x hx
    have ho2 : outB (renS signs o n) x ≠ outB (renS signs o n) (matesOf (renM (matesOf mate) o n) x) := by
      have hw := wasH_lt ho hx
      rw [r.eq x hx, outB_ren ho (d2.lt _ hw)]
      have := outB_ren (signs := signs) ho hw
      rw [newH_was ho hx] at this
      rw [this]
      exact d5 _ hw
    unfold pOK
    rw [hmt x hx, renM_length]
    simp only [Int.toNat_natCast]
    have hne : (outB (renS signs o n) x != outB (renS signs o n) (matesOf (renM (matesOf mate) o n) x)) = true := by simp only [bne_iff_ne, ne_eq]; exact ho2
    have a1 : decide ((0 : Int) ≤ ((matesOf (renM (matesOf mate) o n) x : Nat) : Int)) = true := decide_eq_true (Int.natCast_nonneg _)
    have a2 : decide (((matesOf (renM (matesOf mate) o n) x : Nat) : Int) < ((4 * n : Nat) : Int)) = true := decide_eq_true (by omega)
    have a3 : decide (mt (renM (matesOf mate) o n) (matesOf (renM (matesOf mate) o n) x) = (x : Int)) = true := decide_eq_true (by rw [hmt _ h1, h2])
    rw [hne, a1, a2, a3]; rfl
  have e4 : sphM (renM (matesOf mate) o n) (renS signs o n).length = true := by
    unfold sphM; rw [renM_length, renS_length]; exact hsph
  unfold validB
  rw [e1, e2, e3, e4]; rfl

section
variable {signs mate o : List Int} {lp : Int} {n : Nat}
theorem many_faces (hv : validB signs mate lp = true) (hl : signs.length = n) (ho : IsOrd o n) (k : Nat) : many (facesM signs mate lp) k = many (facesM (renS signs o n) (renM (matesOf mate) o n) lp) k := by
  have r := matesOf_ren hv hl ho
  have hv' := validB_ren hv hl ho
  obtain ⟨d1, _⟩ := ren_data hv hl
  unfold facesM
  rw [if_pos hv, if_pos hv', d1, renM_length]
  exact many_conj (p := fun _ => true) (p' := fun _ => true) (r.inv.perm 3) (r.inv'.perm 3) (newH_perm ho) (fun x hx => r.step 3 hx) (fun _ _ => rfl) (fun _ _ _ => rfl) (fun _ _ _ => rfl) k
theorem strands_closed {signs mate : List Int} {lp : Int} {n : Nat} (hv : validB signs mate lp = true) (hl : signs.length = n) : ClosedN (fs (matesOf mate)) (4 * n) (outB signs) := by
  obtain ⟨v1, v2, v3, v4⟩ := validB_out hv
  obtain ⟨l1, l2, l3, l4⟩ := limB_out v1
  rw [hl] at l2
  exact fun h hh ho => out_closed v2 v3 l2 hl rfl h hh ho
theorem many_strands (hv : validB signs mate lp = true) (hl : signs.length = n) (ho : IsOrd o n) (k : Nat) : many (strandsM signs mate lp) k = many (strandsM (renS signs o n) (renM (matesOf mate) o n) lp) k := by
  have r := matesOf_ren hv hl ho
  have hv' := validB_ren hv hl ho
  obtain ⟨d1, _⟩ := ren_data hv hl
  unfold strandsM
  rw [if_pos hv, if_pos hv', d1, renM_length]
  exact many_conj (r.inv.perm 2) (r.inv'.perm 2) (newH_perm ho) (fun x hx => r.step 2 hx) (fun x hx => outB_ren ho hx) (strands_closed hv hl) (strands_closed hv' (renS_length _ _ _)) k
theorem many_parts (hv : validB signs mate lp = true) (hl : signs.length = n) (ho : IsOrd o n) (k : Nat) : many (graphM signs mate lp) k = many (graphM (renS signs o n) (renM (matesOf mate) o n) lp) k := by
  have r := matesOf_ren hv hl ho
  have hv' := validB_ren hv hl ho
  obtain ⟨d1, _⟩ := ren_data hv hl
  unfold graphM labM
  rw [if_pos hv, if_pos hv', d1, hl, renM_length, renS_length]
  exact many_graph (t := invN o n) (fun b => root_le _ _) (fun b => root_root _ _) (fun b => root_le _ _) (fun b => root_root _ _) (invN_perm ho) (fun x y hx hy => r.lab hx hy) k
theorem length_many {xss yss : List (List Int)} (h : ∀ k, many xss k = many yss k) : xss.length = yss.length := by
  have hp : (xss.map List.length).Perm (yss.map List.length) := List.perm_iff_count.2 fun k => by
    have e : ∀ zss : List (List Int), (zss.map List.length).count k = many zss k := fun zss => by
      rw [List.count, List.countP_map]; rfl
    rw [e, e, h k]
  have := hp.length_eq
  simpa using this
theorem comp_ren (hv : validB signs mate lp = true) (hl : signs.length = n) (ho : IsOrd o n) : compM (renS signs o n) (renM (matesOf mate) o n) lp = compM signs mate lp := by
  unfold compM
  rw [if_pos hv, if_pos (validB_ren hv hl ho), length_many fun k => many_strands hv hl ho k]
/-- Renumbered back. -/
theorem ren_back {o b : List Int} {n : Nat} (ho : IsOrd o n) (hb : b.length = n) (h : ∀ i, i < n → b.getD (ordN o i) 0 = i) : IsOrd b n ∧ (∀ c, c < n → ordN b c = invN o n c) ∧ ∀ i, i < n → invN b n i = ordN o i := by
  have e1 : ∀ c, c < n → b.getD c 0 = (invN o n c : Int) := fun c hc => by
    obtain ⟨h1, h2⟩ := ord_invN ho hc
    have := h _ h2
    rw [h1] at this; exact this
  have hB : IsOrd b n := ⟨hb, ⟨fun c hc => by
    rw [e1 c hc]
    have := (ord_invN ho hc).2
    omega, fun c d hcd hd e => by
    rw [e1 c (by omega), e1 d hd] at e
    have := (invN_perm ho).inj c d (by omega) hd (by omega)
    omega⟩⟩
  have e2 : ∀ c, c < n → ordN b c = invN o n c := fun c hc => by unfold ordN; rw [e1 c hc]; simp
  refine ⟨hB, e2, fun i hi => ?_⟩
  have h1 := (ordN_cast ho.2 hi).2
  have h3 := e2 _ h1
  rw [invN_ord ho hi] at h3
  have h4 := invN_ord hB h1
  rw [h3] at h4; exact h4
theorem ren_ren {signs mate o b : List Int} {lp : Int} {n : Nat} (hv : validB signs mate lp = true) (hl : signs.length = n) (ho : IsOrd o n) (hb : b.length = n) (h : ∀ i, i < n → b.getD (ordN o i) 0 = i) :
    renS (renS signs o n) b n = signs ∧ renM (matesOf (renM (matesOf mate) o n)) b n = mate := by
  obtain ⟨hB, e2, e3⟩ := ren_back ho hb h
  have r := matesOf_ren hv hl ho
  obtain ⟨d1, d2, d3, d4, d5, d6, d7, d8, d9⟩ := ren_data hv hl
  have w : ∀ x, x < 4 * n → wasH b x = newH o n x := fun x hx => by unfold wasH newH; rw [e2 _ (by omega)]
  have v : ∀ x, x < 4 * n → newH b n x = wasH o x := fun x hx => by unfold wasH newH; rw [e3 _ (by omega)]
  constructor
  · refine eq_of_getD (by rw [renS_length, hl]) fun j hj => ?_
    rw [renS_length] at hj
    have h1 := ord_invN ho hj
    rw [renS_get hj, e2 j hj, renS_get h1.2, h1.1]
  · refine eq_of_getD (by rw [renM_length, d1]) fun j hj => ?_
    rw [renM_length] at hj
    have h2 := d2.lt j hj
    rw [renM_get hj, w j hj, r.at hj, v _ (newH_lt ho h2), wasH_new ho h2]
    exact (d6 j hj).symm
end

end Go.Proofs.Ytcllnoigppkjiaa
