/- For every list of numbers and every 16-bit number, whatever memory they lie in, DowkerOvers returns true and its arguments read afterwards as before. Conditions: none. -/
import Derived.Test.YtambhopkacgddaaF13
import Derived.Test.YtambhopkacgddaaF10
namespace Go.Proofs.Ytambhopkacgddaa
open Go.ChangeShapes Go.WideShapes Go.ChangeAt Go.RowKit Go.Joins

set_option maxRecDepth 100000 in
theorem dkovers_lifted (os : Os) (started : os.Started) (H : Type) (enc : TypeId × Value → H) :
    ReturnsInHanded {} Try.checked os 8 .any (Rows.dowkerOversSpec.pre6 enc Try.prog Try.f8 Rows.dowkerOversRow.domain false) (Rows.dowkerOversSpec.post enc Try.prog Try.f8 false true false false) := by
  refine returnsInHanded_of_change (C := Try.checked) Try.own started (by kernel_rfl) Try.func8
    (ChangeSpec.witness6 (enc := enc) (C := Try.checked) false ⟨#[], #[.slice none 0 0, .int .u16 0], []⟩ 8 (by kernel_rfl) (by kernel_rfl) (by kernel_rfl) (by kernel_rfl)) ?_
  intro W base args ds gs before hval0 hW _ _
  have hval : ∀ (j : Nat) t v, Try.f8.params[j]? = some t → args[j]? = some v → Value.okWide Try.prog W .any base t v := hval0
  have hW' := hW
  obtain ⟨p, q, hA0, hV, rfl, hfz, hnd⟩ := hW
  have hA : DataW.TrodAll enc Try.prog W 0 (fun _ => true) true Try.f8.params.toList args.toList ds p := hA0
  rw [Try.params8] at hA hval
  obtain ⟨v0, v1, d0, d1, p0, p1, rfl, rfl, rfl, h0, h1⟩ := trodAll_two hA
  obtain ⟨rfl, rfl⟩ := trodVars_none hV
  obtain ⟨C0, no0, co0, rfl⟩ := okWide_slice Try.underlying22 (hval 0 22 v0 rfl rfl)
  obtain ⟨fuel, h0'⟩ := h0
  obtain ⟨C, no, co, o, hv0, r3, l3, q4⟩ := open_ri (v := .slice C0 no0 co0) (by simpa [Value.cells] using h0')
  rw [hv0]
  rw [hv0] at hW'
  obtain ⟨x, rfl, rfl, rfl, wx⟩ := open_int Try.underlying43 (hval 1 43 v1 rfl rfl) h1
  have hx : 0 ≤ x ∧ x ≤ 65535 := by
    have h1 : IntKind.u16.min = 0 := rfl
    have h2 : IntKind.u16.max = 65535 := rfl
    simp [Lit.wf] at wx
    rw [h1, h2] at wx
    omega
  refine (dkovers_walk C no co x o W r3 l3 q4 hx).mono fun e W' ⟨he, hb⟩ => ?_
  subst he
  exact ⟨_, rfl, law_post (f := Try.f8) (by kernel_rfl) rfl (by rw [Try.params8]; decide +kernel) ⟨rfl, rfl, rfl⟩ hW' hb⟩

theorem dkovers_holds : Rows.DowkerOversSaid :=
  OpenClaim.holds_of_wide 8 Try.f8 rfl rfl rfl rfl rfl rfl rfl ⟨rfl, rfl, rfl, rfl, rfl⟩ rfl rfl rfl rfl rfl (by kernel_rfl) Try.func8 (by kernel_rfl)
    (of_decide_eq_true (by kernel_rfl)) (by unfold Func.isWrapper; first | (rw [if_pos (by decide +kernel)]; kernel_rfl) | (rw [if_neg (by decide +kernel)]; exact ⟨rfl, rfl⟩))
    (fun os started H enc _ => dkovers_lifted os started H enc)

end Go.Proofs.Ytambhopkacgddaa
