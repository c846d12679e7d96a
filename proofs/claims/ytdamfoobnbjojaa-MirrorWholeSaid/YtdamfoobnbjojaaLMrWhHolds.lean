/- For every diagram, whatever memory it lies in, MirrorWhole returns true and its argument reads afterwards as before. Conditions: none. -/
import Derived.Test.YtdamfoobnbjojaaL11
import Derived.Test.YtdamfoobnbjojaaL08
namespace Go.Proofs.Ytdamfoobnbjojaa
open Go.ChangeShapes Go.WideShapes Go.ChangeAt Go.RowKit Go.Joins

set_option maxRecDepth 100000 in
theorem mwh_lifted (os : Os) (started : os.Started) (H : Type) (enc : TypeId × Value → H) :
    ReturnsInHanded {} Try.checked os 3 .any (Rows.mirrorWholeSpec.pre6 enc Try.prog Try.f3 Rows.mirrorWholeRow.domain false) (Rows.mirrorWholeSpec.post enc Try.prog Try.f3 false true false false) := by
  refine returnsInHanded_of_change (C := Try.checked) Try.own started (by kernel_rfl) Try.func3
    (ChangeSpec.witness6 (enc := enc) (C := Try.checked) false ⟨#[], #[.agg #[.slice none 0 0, .slice none 0 0, .int .i64 0]], []⟩ 8 (by kernel_rfl) (by kernel_rfl) (by kernel_rfl) (by kernel_rfl)) ?_
  intro W base args ds gs before hval0 hW _ _
  have hval : ∀ (j : Nat) t v, Try.f3.params[j]? = some t → args[j]? = some v → Value.okWide Try.prog W .any base t v := hval0
  have hW' := hW
  obtain ⟨p, q, hA0, hV, rfl, hfz, hnd⟩ := hW
  have hA : DataW.TrodAll enc Try.prog W 0 (fun _ => true) true Try.f3.params.toList args.toList ds p := hA0
  rw [Try.params3] at hA hval
  obtain ⟨v0, d0, rfl, rfl, h0⟩ := trodAll_one hA
  obtain ⟨rfl, rfl⟩ := trodVars_none hV
  obtain ⟨A, ns, cs, B, nm, cm, lp, signs, mate, rfl, r1, r2, l1, l2, q1, q2, q3⟩ := open_diag (hval 0 24 v0 rfl rfl) h0
  refine (mirrorwhole_walk A B ns cs nm cm lp signs mate W r1 r2 l1 l2 q2).mono fun e W' ⟨he, hb⟩ => ?_
  subst he
  exact ⟨_, rfl, law_post (f := Try.f3) (by kernel_rfl) rfl (by rw [Try.params3]; decide +kernel) ⟨rfl, rfl, rfl⟩ hW' hb⟩

theorem mwh_holds : Rows.MirrorWholeSaid :=
  OpenClaim.holds_of_wide 3 Try.f3 rfl rfl rfl rfl rfl rfl rfl ⟨rfl, rfl, rfl, rfl, rfl⟩ rfl rfl rfl rfl rfl (by kernel_rfl) Try.func3 (by kernel_rfl)
    (of_decide_eq_true (by kernel_rfl)) (by unfold Func.isWrapper; first | (rw [if_pos (by decide +kernel)]; kernel_rfl) | (rw [if_neg (by decide +kernel)]; exact ⟨rfl, rfl⟩))
    (fun os started H enc _ => mwh_lifted os started H enc)

end Go.Proofs.Ytdamfoobnbjojaa
