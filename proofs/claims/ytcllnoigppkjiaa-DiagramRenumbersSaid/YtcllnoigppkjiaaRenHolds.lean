/- For every diagram and every list of numbers, whatever memory they lie in, DiagramRenumbers returns true and its arguments read afterwards as before. Conditions: none. -/
import Derived.Test.YtcllnoigppkjiaaRenLaw
namespace Go.Proofs.Ytcllnoigppkjiaa
open Go.ChangeShapes Go.WideShapes Go.ChangeAt Go.RowKit Go.Joins

set_option maxRecDepth 100000 in
theorem renumbers_lifted (os : Os) (started : os.Started) (H : Type) (enc : TypeId × Value → H) :
    ReturnsInHanded {} Try.checked os 6 .any (Rows.diagramRenumbersSpec.pre6 enc Try.prog Try.f6 Rows.diagramRenumbersRow.domain false) (Rows.diagramRenumbersSpec.post enc Try.prog Try.f6 false true false false) := by
  refine returnsInHanded_of_change (C := Try.checked) Try.own started (by kernel_rfl) Try.func6
    (ChangeSpec.witness6 (enc := enc) (C := Try.checked) false ⟨#[], #[.agg #[.slice none 0 0, .slice none 0 0, .int .i64 0], .slice none 0 0], []⟩ 8 (by kernel_rfl) (by kernel_rfl) (by kernel_rfl) (by kernel_rfl)) ?_
  intro W base args ds gs before hval0 hW hcnd _
  have hval : ∀ (j : Nat) t v, Try.f6.params[j]? = some t → args[j]? = some v → Value.okWide Try.prog W .any base t v := hval0
  have hW' := hW
  obtain ⟨p, q, hA0, hV, rfl, hfz, hnd⟩ := hW
  have hA : DataW.TrodAll enc Try.prog W 0 (fun _ => true) true Try.f6.params.toList args.toList ds p := hA0
  rw [Try.params6] at hA hval
  obtain ⟨v0, v1, d0, d1, p0, p1, rfl, rfl, rfl, h0, h1⟩ := trodAll_two hA
  obtain ⟨rfl, rfl⟩ := trodVars_none hV
  obtain ⟨A, ns, cs, B, nm, cm, lp, signs, mate, rfl, r1, r2, l1, l2, q1, q2, q3⟩ := open_diag (hval 0 24 v0 rfl rfl) h0
  obtain ⟨C0, no0, co0, rfl⟩ := okWide_slice Try.underlying22 (hval 1 22 v1 rfl rfl)
  obtain ⟨fuel, h1'⟩ := h1
  obtain ⟨C, no, co, o, hv1, r3, l3, q4⟩ := open_ri (v := .slice C0 no0 co0) (by simpa [Value.cells] using h1')
  rw [hv1]
  rw [hv1] at hW'
  refine (renumbers_walk A B C ns cs nm cm no co lp signs mate o W r1 r2 r3 l1 l2 l3 q2 q4).mono fun e W' ⟨he, hb⟩ => ?_
  subst he
  exact ⟨_, rfl, law_post (f := Try.f6) (by kernel_rfl) rfl (by rw [Try.params6]; decide +kernel) ⟨rfl, rfl, rfl⟩ hW' hb⟩

theorem renumbers_holds : Rows.DiagramRenumbersSaid :=
  OpenClaim.holds_of_wide 6 Try.f6 rfl rfl rfl rfl rfl rfl rfl ⟨rfl, rfl, rfl, rfl, rfl⟩ rfl rfl rfl rfl rfl (by kernel_rfl) Try.func6 (by kernel_rfl)
    (of_decide_eq_true (by kernel_rfl)) (by unfold Func.isWrapper; first | (rw [if_pos (by decide +kernel)]; kernel_rfl) | (rw [if_neg (by decide +kernel)]; exact ⟨rfl, rfl⟩))
    (fun os started H enc _ => renumbers_lifted os started H enc)

end Go.Proofs.Ytcllnoigppkjiaa
