/- For every diagram, whatever memory it lies in, ConnectAlternates returns true and its argument reads afterwards as before. Conditions: none. -/
import Derived.Test.YtkfjledhnakfoaaA23
import Derived.Test.YtkfjledhnakfoaaA11
namespace Go.Proofs.Ytkfjledhnakfoaa
open Go.ChangeShapes Go.WideShapes Go.ChangeAt Go.RowKit Go.Joins

set_option maxRecDepth 100000 in
theorem calt_lifted (os : Os) (started : os.Started) (H : Type) (enc : TypeId × Value → H) :
    ReturnsInHanded {} Try.checked os 5 .any (Rows.connectAlternatesSpec.pre6 enc Try.prog Try.f5 Rows.connectAlternatesRow.domain false) (Rows.connectAlternatesSpec.post enc Try.prog Try.f5 false true false false) := by
  refine returnsInHanded_of_change (C := Try.checked) Try.own started (by kernel_rfl) Try.func5
    (ChangeSpec.witness6 (enc := enc) (C := Try.checked) false ⟨#[], #[.agg #[.slice none 0 0, .slice none 0 0, .int .i64 0]], []⟩ 8 (by kernel_rfl) (by kernel_rfl) (by kernel_rfl) (by kernel_rfl)) ?_
  intro W base args ds gs before hval0 hW _ _
  have hval : ∀ (j : Nat) t v, Try.f5.params[j]? = some t → args[j]? = some v → Value.okWide Try.prog W .any base t v := hval0
  have hW' := hW
  obtain ⟨p, q, hA0, hV, rfl, hfz, hnd⟩ := hW
  have hA : DataW.TrodAll enc Try.prog W 0 (fun _ => true) true Try.f5.params.toList args.toList ds p := hA0
  rw [Try.params5] at hA hval
  obtain ⟨v0, d0, rfl, rfl, h0⟩ := trodAll_one hA
  obtain ⟨rfl, rfl⟩ := trodVars_none hV
  obtain ⟨A, ns, cs, B, nm, cm, lp, signs, mate, rfl, r1, r2, l1, l2, q1, q2, q3⟩ := open_diag (hval 0 24 v0 rfl rfl) h0
  refine (alternates_walk A B ns cs nm cm lp signs mate W r1 r2 l1 l2 q2 q3).mono fun e W' ⟨he, hb⟩ => ?_
  subst he
  exact ⟨_, rfl, law_post (f := Try.f5) (by kernel_rfl) rfl (by rw [Try.params5]; decide +kernel) ⟨rfl, rfl, rfl⟩ hW' hb⟩

theorem calt_holds : Rows.ConnectAlternatesSaid :=
  OpenClaim.holds_of_wide 5 Try.f5 rfl rfl rfl rfl rfl rfl rfl ⟨rfl, rfl, rfl, rfl, rfl⟩ rfl rfl rfl rfl rfl (by kernel_rfl) Try.func5 (by kernel_rfl)
    (of_decide_eq_true (by kernel_rfl)) (by unfold Func.isWrapper; first | (rw [if_pos (by decide +kernel)]; kernel_rfl) | (rw [if_neg (by decide +kernel)]; exact ⟨rfl, rfl⟩))
    (fun os started H enc _ => calt_lifted os started H enc)

end Go.Proofs.Ytkfjledhnakfoaa
