/- For all pairs of diagrams and every uint8, whatever memory they lie in, ConnectUnions returns true and its arguments read afterwards as before. Conditions: none. -/
import Derived.Test.YtkfjledhnakfoaaBCnUniLaw
import Derived.Test.YtkfjledhnakfoaaA11
namespace Go.Proofs.Ytkfjledhnakfoaa
open Go.ChangeShapes Go.WideShapes Go.ChangeAt Go.RowKit Go.Joins

set_option maxRecDepth 100000 in
theorem uni_lifted (os : Os) (started : os.Started) (H : Type) (enc : TypeId × Value → H) :
    ReturnsInHanded {} Try.checked os 3 .any (Rows.connectUnionsSpec.pre6 enc Try.prog Try.f3 Rows.connectUnionsRow.domain false) (Rows.connectUnionsSpec.post enc Try.prog Try.f3 false true false false) := by
  refine returnsInHanded_of_change (C := Try.checked) Try.own started (by kernel_rfl) Try.func3
    (ChangeSpec.witness6 (enc := enc) (C := Try.checked) false ⟨#[], #[.agg #[.slice none 0 0, .slice none 0 0, .int .i64 0], .agg #[.slice none 0 0, .slice none 0 0, .int .i64 0], .int .u8 0], []⟩ 8 (by kernel_rfl) (by kernel_rfl) (by kernel_rfl) (by kernel_rfl)) ?_
  intro W base args ds gs before hval0 hW _ _
  have hval : ∀ (j : Nat) t v, Try.f3.params[j]? = some t → args[j]? = some v → Value.okWide Try.prog W .any base t v := hval0
  have hW' := hW
  obtain ⟨p, q, hA0, hV, rfl, hfz, hnd⟩ := hW
  have hA : DataW.TrodAll enc Try.prog W 0 (fun _ => true) true Try.f3.params.toList args.toList ds p := hA0
  rw [Try.params3] at hA hval
  obtain ⟨v0, v1, v2, t0, t1, t2, y0, y1, y2, rfl, rfl, rfl, h0, h1, h2⟩ := trodAll_three hA
  obtain ⟨rfl, rfl⟩ := trodVars_none hV
  obtain ⟨A1, n1, c1, B1, k1, d1, p1, s1, m1, rfl, r1, r2, e1, e2, q1, q2, q3⟩ := open_diag (hval 0 24 v0 rfl rfl) h0
  obtain ⟨A2, n2, c2, B2, k2, d2, p2, s2, m2, rfl, r3, r4, e3, e4, q4, q5, q6⟩ := open_diag (hval 1 24 v1 rfl rfl) h1
  obtain ⟨x2, rfl, rfl, rfl, wx2⟩ := open_int Try.underlying5 (hval 2 5 v2 rfl rfl) h2
  have hx2 : 0 ≤ x2 ∧ x2 ≤ 255 := by
    have h1 : IntKind.u8.min = 0 := rfl
    have h2 : IntKind.u8.max = 255 := rfl
    simp [Lit.wf] at wx2
    rw [h1, h2] at wx2
    omega
  obtain ⟨a2, hax2⟩ : ∃ a : Nat, x2 = (a : Int) := ⟨x2.toNat, by omega⟩
  subst hax2
  have ha2 : a2 ≤ 255 := by omega
  refine (unions_walk A1 B1 A2 B2 n1 c1 k1 d1 n2 c2 k2 d2 p1 p2 s1 m1 s2 m2 a2 W r1 r2 r3 r4 e1 e2 e3 e4 q2 q5 q3 q6 ha2).mono fun e W' ⟨he, hb⟩ => ?_
  subst he
  exact ⟨_, rfl, law_post (f := Try.f3) (by kernel_rfl) rfl (by rw [Try.params3]; decide +kernel) ⟨rfl, rfl, rfl⟩ hW' hb⟩

theorem uni_holds : Rows.ConnectUnionsSaid :=
  OpenClaim.holds_of_wide 3 Try.f3 rfl rfl rfl rfl rfl rfl rfl ⟨rfl, rfl, rfl, rfl, rfl⟩ rfl rfl rfl rfl rfl (by kernel_rfl) Try.func3 (by kernel_rfl)
    (of_decide_eq_true (by kernel_rfl)) (by unfold Func.isWrapper; first | (rw [if_pos (by decide +kernel)]; kernel_rfl) | (rw [if_neg (by decide +kernel)]; exact ⟨rfl, rfl⟩))
    (fun os started H enc _ => uni_lifted os started H enc)

end Go.Proofs.Ytkfjledhnakfoaa
