/- For all pairs of diagrams and all pairs of numbers, whatever memory they lie in, ConnectSums returns true and its arguments read afterwards as before. Conditions: none. -/
import Derived.Test.YtkfjledhnakfoaaCCnSumLaw
import Derived.Test.YtkfjledhnakfoaaA11
import Derived.Test.YtkfjledhnakfoaaCMrArgs
namespace Go.Proofs.Ytkfjledhnakfoaa
open Go.ChangeShapes Go.WideShapes Go.ChangeAt Go.RowKit Go.Joins

set_option maxRecDepth 100000 in
theorem sums_lifted (os : Os) (started : os.Started) (H : Type) (enc : TypeId × Value → H) :
    ReturnsInHanded {} Try.checked os 7 .any (Rows.connectSumsSpec.pre6 enc Try.prog Try.f7 Rows.connectSumsRow.domain false) (Rows.connectSumsSpec.post enc Try.prog Try.f7 false true false false) := by
  refine returnsInHanded_of_change (C := Try.checked) Try.own started (by kernel_rfl) Try.func7
    (ChangeSpec.witness6 (enc := enc) (C := Try.checked) false ⟨#[], #[.agg #[.slice none 0 0, .slice none 0 0, .int .i64 0], .int .i64 0, .agg #[.slice none 0 0, .slice none 0 0, .int .i64 0], .int .i64 0], []⟩ 8 (by kernel_rfl) (by kernel_rfl) (by kernel_rfl) (by kernel_rfl)) ?_
  intro W base args ds gs before hval0 hW _ _
  have hval : ∀ (j : Nat) t v, Try.f7.params[j]? = some t → args[j]? = some v → Value.okWide Try.prog W .any base t v := hval0
  have hW' := hW
  obtain ⟨p, q, hA0, hV, rfl, hfz, hnd⟩ := hW
  have hA : DataW.TrodAll enc Try.prog W 0 (fun _ => true) true Try.f7.params.toList args.toList ds p := hA0
  rw [Try.params7] at hA hval
  obtain ⟨v0, v1, v2, v3, t0, t1, t2, t3, y0, y1, y2, y3, rfl, rfl, rfl, h0, h1, h2, h3⟩ := trodAll_four hA
  obtain ⟨rfl, rfl⟩ := trodVars_none hV
  obtain ⟨A1, n1, c1, B1, k1, d1, p1, s1, m1, rfl, r1, r2, e1, e2, q1, q2, q3⟩ := open_diag (hval 0 24 v0 rfl rfl) h0
  obtain ⟨x1, rfl, rfl, rfl, wx1⟩ := open_int Try.underlying3 (hval 1 3 v1 rfl rfl) h1
  obtain ⟨A2, n2, c2, B2, k2, d2, p2, s2, m2, rfl, r3, r4, e3, e4, q4, q5, q6⟩ := open_diag (hval 2 24 v2 rfl rfl) h2
  obtain ⟨x3, rfl, rfl, rfl, wx3⟩ := open_int Try.underlying3 (hval 3 3 v3 rfl rfl) h3
  refine (sums_walk A1 B1 A2 B2 n1 c1 k1 d1 n2 c2 k2 d2 p1 p2 x1 x3 s1 m1 s2 m2 W r1 r2 r3 r4 e1 e2 e3 e4 q2 q5 q3 q6 (inI_of_wf wx1) (inI_of_wf wx3)).mono fun e W' ⟨he, hb⟩ => ?_
  subst he
  exact ⟨_, rfl, law_post (f := Try.f7) (by kernel_rfl) rfl (by rw [Try.params7]; decide +kernel) ⟨rfl, rfl, rfl⟩ hW' hb⟩

theorem sums_holds : Rows.ConnectSumsSaid :=
  OpenClaim.holds_of_wide 7 Try.f7 rfl rfl rfl rfl rfl rfl rfl ⟨rfl, rfl, rfl, rfl, rfl⟩ rfl rfl rfl rfl rfl (by kernel_rfl) Try.func7 (by kernel_rfl)
    (of_decide_eq_true (by kernel_rfl)) (by unfold Func.isWrapper; first | (rw [if_pos (by decide +kernel)]; kernel_rfl) | (rw [if_neg (by decide +kernel)]; exact ⟨rfl, rfl⟩))
    (fun os started H enc _ => sums_lifted os started H enc)

end Go.Proofs.Ytkfjledhnakfoaa
