/- For every diagram and all uint8s, whatever memory they lie in, MirrorCommutes returns true and its arguments read afterwards as before. Conditions: none. -/
import Derived.Test.YtdamfoobnbjojaaK09
import Derived.Test.YtdamfoobnbjojaaK08
namespace Go.Proofs.Ytdamfoobnbjojaa
open Go.ChangeShapes Go.WideShapes Go.ChangeAt Go.RowKit Go.Joins

set_option maxRecDepth 100000 in
theorem mcom_lifted (os : Os) (started : os.Started) (H : Type) (enc : TypeId × Value → H) :
    ReturnsInHanded {} Try.checked os 6 .any (Rows.mirrorCommutesSpec.pre6 enc Try.prog Try.f6 Rows.mirrorCommutesRow.domain false) (Rows.mirrorCommutesSpec.post enc Try.prog Try.f6 false true false false) := by
  refine returnsInHanded_of_change (C := Try.checked) Try.own started (by kernel_rfl) Try.func6
    (ChangeSpec.witness6 (enc := enc) (C := Try.checked) false ⟨#[], #[.agg #[.slice none 0 0, .slice none 0 0, .int .i64 0], .int .u8 0, .int .u8 0, .int .u8 0, .int .u8 0], []⟩ 8 (by kernel_rfl) (by kernel_rfl) (by kernel_rfl) (by kernel_rfl)) ?_
  intro W base args ds gs before hval0 hW _ _
  have hval : ∀ (j : Nat) t v, Try.f6.params[j]? = some t → args[j]? = some v → Value.okWide Try.prog W .any base t v := hval0
  have hW' := hW
  obtain ⟨p, q, hA0, hV, rfl, hfz, hnd⟩ := hW
  have hA : DataW.TrodAll enc Try.prog W 0 (fun _ => true) true Try.f6.params.toList args.toList ds p := hA0
  rw [Try.params6] at hA hval
  obtain ⟨v0, v1, v2, v3, v4, d0, d1, d2, d3, d4, p0, p1, p2, p3, p4, rfl, rfl, rfl, h0, h1, h2, h3, h4⟩ := trodAll_five hA
  obtain ⟨rfl, rfl⟩ := trodVars_none hV
  obtain ⟨A, ns, cs, B, nm, cm, lp, signs, mate, rfl, r1, r2, l1, l2, q1, q2, q3⟩ := open_diag (hval 0 24 v0 rfl rfl) h0
  obtain ⟨x1, rfl, rfl, rfl, wx1⟩ := open_int Try.underlying5 (hval 1 5 v1 rfl rfl) h1
  have hx1 : 0 ≤ x1 ∧ x1 ≤ 255 := by
    have h1 : IntKind.u8.min = 0 := rfl
    have h2 : IntKind.u8.max = 255 := rfl
    simp [Lit.wf] at wx1
    rw [h1, h2] at wx1
    omega
  obtain ⟨a1, hax1⟩ : ∃ a : Nat, x1 = (a : Int) := ⟨x1.toNat, by omega⟩
  subst hax1
  have ha1 : a1 ≤ 255 := by omega
  obtain ⟨x2, rfl, rfl, rfl, wx2⟩ := open_int Try.underlying5 (hval 2 5 v2 rfl rfl) h2
  have hx2 : 0 ≤ x2 ∧ x2 ≤ 255 := by
    have h1 : IntKind.u8.min = 0 := rfl
    have h2 : IntKind.u8.max = 255 := rfl
    simp [Lit.wf] at wx2
    rw [h1, h2] at wx2
    omega
  obtain ⟨a2, hax2⟩ : ∃ a : Nat, x2 = (a : Int) := ⟨x2.toNat, by omega⟩
  subst hax2
  have ha2 : a2 ≤ 255 := by omega
  obtain ⟨x3, rfl, rfl, rfl, wx3⟩ := open_int Try.underlying5 (hval 3 5 v3 rfl rfl) h3
  have hx3 : 0 ≤ x3 ∧ x3 ≤ 255 := by
    have h1 : IntKind.u8.min = 0 := rfl
    have h2 : IntKind.u8.max = 255 := rfl
    simp [Lit.wf] at wx3
    rw [h1, h2] at wx3
    omega
  obtain ⟨a3, hax3⟩ : ∃ a : Nat, x3 = (a : Int) := ⟨x3.toNat, by omega⟩
  subst hax3
  have ha3 : a3 ≤ 255 := by omega
  obtain ⟨x4, rfl, rfl, rfl, wx4⟩ := open_int Try.underlying5 (hval 4 5 v4 rfl rfl) h4
  have hx4 : 0 ≤ x4 ∧ x4 ≤ 255 := by
    have h1 : IntKind.u8.min = 0 := rfl
    have h2 : IntKind.u8.max = 255 := rfl
    simp [Lit.wf] at wx4
    rw [h1, h2] at wx4
    omega
  obtain ⟨a4, hax4⟩ : ∃ a : Nat, x4 = (a : Int) := ⟨x4.toNat, by omega⟩
  subst hax4
  have ha4 : a4 ≤ 255 := by omega
  refine (mirrorcommutes_walk A B ns cs nm cm lp signs mate a1 a2 a3 a4 W r1 r2 l1 l2 q2 ha1 ha2 ha3 ha4).mono fun e W' ⟨he, hb⟩ => ?_
  subst he
  exact ⟨_, rfl, law_post (f := Try.f6) (by kernel_rfl) rfl (by rw [Try.params6]; decide +kernel) ⟨rfl, rfl, rfl⟩ hW' hb⟩

theorem mcom_holds : Rows.MirrorCommutesSaid :=
  OpenClaim.holds_of_wide 6 Try.f6 rfl rfl rfl rfl rfl rfl rfl ⟨rfl, rfl, rfl, rfl, rfl⟩ rfl rfl rfl rfl rfl (by kernel_rfl) Try.func6 (by kernel_rfl)
    (of_decide_eq_true (by kernel_rfl)) (by unfold Func.isWrapper; first | (rw [if_pos (by decide +kernel)]; kernel_rfl) | (rw [if_neg (by decide +kernel)]; exact ⟨rfl, rfl⟩))
    (fun os started H enc _ => mcom_lifted os started H enc)

end Go.Proofs.Ytdamfoobnbjojaa
