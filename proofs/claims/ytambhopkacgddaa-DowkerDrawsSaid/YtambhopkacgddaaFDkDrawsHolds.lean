/- For every list of numbers, whatever memory it lies in, DowkerDraws returns true and its argument reads afterwards as before. Conditions: none. -/
import Derived.Test.YtambhopkacgddaaF13
import Derived.Test.YtambhopkacgddaaF10
namespace Go.Proofs.Ytambhopkacgddaa
open Go.ChangeShapes Go.WideShapes Go.ChangeAt Go.RowKit Go.Joins

set_option maxRecDepth 100000 in
theorem dkdraws_lifted (os : Os) (started : os.Started) (H : Type) (enc : TypeId × Value → H) :
    ReturnsInHanded {} Try.checked os 5 .any (Rows.dowkerDrawsSpec.pre6 enc Try.prog Try.f5 Rows.dowkerDrawsRow.domain false) (Rows.dowkerDrawsSpec.post enc Try.prog Try.f5 false true false false) := by
  refine returnsInHanded_of_change (C := Try.checked) Try.own started (by kernel_rfl) Try.func5
    (ChangeSpec.witness6 (enc := enc) (C := Try.checked) false ⟨#[], #[.slice none 0 0], []⟩ 8 (by kernel_rfl) (by kernel_rfl) (by kernel_rfl) (by kernel_rfl)) ?_
  intro W base args ds gs before hval0 hW _ _
  have hval : ∀ (j : Nat) t v, Try.f5.params[j]? = some t → args[j]? = some v → Value.okWide Try.prog W .any base t v := hval0
  have hW' := hW
  obtain ⟨p, q, hA0, hV, rfl, hfz, hnd⟩ := hW
  have hA : DataW.TrodAll enc Try.prog W 0 (fun _ => true) true Try.f5.params.toList args.toList ds p := hA0
  rw [Try.params5] at hA hval
  obtain ⟨v0, d0, rfl, rfl, h0⟩ := trodAll_one hA
  obtain ⟨rfl, rfl⟩ := trodVars_none hV
  obtain ⟨C0, no0, co0, rfl⟩ := okWide_slice Try.underlying22 (hval 0 22 v0 rfl rfl)
  obtain ⟨fuel, h0'⟩ := h0
  obtain ⟨C, no, co, o, hv0, r3, l3, q4⟩ := open_ri (v := .slice C0 no0 co0) (by simpa [Value.cells] using h0')
  rw [hv0]
  rw [hv0] at hW'
  refine (dkdraws_walk C no co o W r3 l3 q4).mono fun e W' ⟨he, hb⟩ => ?_
  subst he
  exact ⟨_, rfl, law_post (f := Try.f5) (by kernel_rfl) rfl (by rw [Try.params5]; decide +kernel) ⟨rfl, rfl, rfl⟩ hW' hb⟩

theorem dkdraws_holds : Rows.DowkerDrawsSaid :=
  OpenClaim.holds_of_wide 5 Try.f5 rfl rfl rfl rfl rfl rfl rfl ⟨rfl, rfl, rfl, rfl, rfl⟩ rfl rfl rfl rfl rfl (by kernel_rfl) Try.func5 (by kernel_rfl)
    (of_decide_eq_true (by kernel_rfl)) (by unfold Func.isWrapper; first | (rw [if_pos (by decide +kernel)]; kernel_rfl) | (rw [if_neg (by decide +kernel)]; exact ⟨rfl, rfl⟩))
    (fun os started H enc _ => dkdraws_lifted os started H enc)

end Go.Proofs.Ytambhopkacgddaa
