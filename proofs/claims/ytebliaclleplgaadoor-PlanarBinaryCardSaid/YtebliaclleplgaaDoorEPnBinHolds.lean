/- For every input, whatever memory it lies in, PlanarBinary returns true and its arguments read afterwards as before; the tables that the row lists are tied to the program's text. Conditions: the listed tables read as the text lays them. -/
import Derived.Test.YtebliaclleplgaaDoorE12
import Derived.Test.YtebliaclleplgaaDoorTie
namespace Go.Proofs.YtebliaclleplgaaDoor
open Go.ChangeShapes Go.WideShapes Go.ChangeAt Go.RowKit Go.Joins

set_option maxRecDepth 100000 in
theorem pbinary_lifted (os : Os) (started : os.Started) (H : Type) (enc : TypeId × Value → H) :
    ReturnsInHanded {} Tryd.checked os 8 .any (fun w args => (Rows.planarBinarySpec.pre enc Tryd.prog Tryd.f8 [] false w args ∧ laidMetH Tryd.prog gLaid w) ∧ sizedMet enc Tryd.prog Tryd.f8 (OpenSpec.ofChange Rows.planarBinarySpec) false w args)
      (Rows.planarBinarySpec.post enc Tryd.prog Tryd.f8 false true false false) := by
  refine returnsInHanded_of_change_and (C := Tryd.checked) (X := fun w _ => laidMetH Tryd.prog gLaid w) (fun _ _ _ hh h => h.of_heap hh) Tryd.own started (by kernel_rfl) Tryd.func8
    (ChangeSpec.witness_shaped (enc := enc) (C := Tryd.checked) (os := os) (X := fun w _ => laidMetH Tryd.prog gLaid w) false (World.doorLaid Tryd.prog 400 os) #[.agg #[.slice none 0 0, .slice none 0 0, .int .i64 0], .slice none 0 0, .int .u8 0] 8 rfl (World.shaped_of_RefB (by kernel_rfl) (by kernel_rfl)) (by kernel_rfl) (by kernel_rfl) (by kernel_rfl) (door_met os _)) ?_
  intro W base args ds gs before hval0 hW _ hsz hL _
  have hval : ∀ (j : Nat) t v, Tryd.f8.params[j]? = some t → args[j]? = some v → Value.okWide Tryd.prog W .any base t v := hval0
  have hW' := hW
  obtain ⟨p, q, hA0, hV, rfl, hfz, hnd⟩ := hW
  have hA : DataW.TrodAll enc Tryd.prog W 0 (fun _ => true) true Tryd.f8.params.toList args.toList ds p := hA0
  rw [Tryd.params8] at hA hval
  obtain ⟨v0, v1, v2, d0, d1, d2, p0, p1, p2, rfl, rfl, rfl, h0, h1, h2⟩ := trodAll_three hA
  obtain ⟨rfl, rfl⟩ := trodVars_none hV
  obtain ⟨A, ns, cs, B, nm, cm, lp, signs, mate, rfl, r1, r2, l1, l2, q1, q2, q3⟩ := open_diag (hval 0 24 v0 rfl rfl) h0
  obtain ⟨C0, no0, co0, rfl⟩ := okWide_slice Tryd.underlying39 (hval 1 39 v1 rfl rfl)
  obtain ⟨fuel, h1'⟩ := h1
  obtain ⟨C, no, co, o, hv0, r3, l3, q4⟩ := open_rb (v := .slice C0 no0 co0) (by simpa [Value.cells] using h1')
  rw [hv0]
  rw [hv0] at hW'
  obtain ⟨x, rfl, rfl, rfl, wx⟩ := open_int Tryd.underlying5 (hval 2 5 v2 rfl rfl) h2
  have hx : 0 ≤ x ∧ x ≤ 255 := by
    have h1 : IntKind.u8.min = 0 := rfl
    have h2 : IntKind.u8.max = 255 := rfl
    simp [Lit.wf] at wx
    rw [h1, h2] at wx
    omega
  obtain ⟨cut, rfl⟩ := Int.eq_ofNat_of_zero_le hx.1
  refine (pbinary_walk A B ns cs nm cm lp signs mate C no co o cut W r1 r2 q2 r3 l3 q4 (by omega) (pw_of_laid hL)).mono fun e W' ⟨he, hb⟩ => ?_
  subst he
  exact ⟨_, rfl, law_post (f := Tryd.f8) (by kernel_rfl) rfl (by rw [Tryd.params8]; decide +kernel) ⟨rfl, rfl, rfl⟩ hW' hb⟩

theorem pbinary_row : Rows.PlanarBinarySaid :=
  OpenClaim.holds_of_wide 8 Tryd.f8 rfl rfl rfl rfl rfl rfl rfl ⟨rfl, rfl, rfl, rfl, rfl⟩ rfl rfl rfl rfl rfl (by kernel_rfl) Tryd.func8 (by kernel_rfl)
    (of_decide_eq_true (by kernel_rfl)) (by unfold Func.isWrapper; first | (rw [if_pos (by decide +kernel)]; kernel_rfl) | (rw [if_neg (by decide +kernel)]; exact ⟨rfl, rfl⟩))
    (fun os started H enc _ => pbinary_lifted os started H enc)

theorem pbinary_holds : Rows.PlanarBinaryCardSaid :=
  Claim7.holds_tied_plain_at .later [] Rows.planarBinaryCard.laidKinds true Rows.planarBinaryCard.stood.harness true
    pbinary_row (fun _ h => by cases h) (by kernel_rfl) (fun _ h => by cases h) planarBinary_row_tie rfl ⟨rfl, rfl⟩ (by kernel_rfl) rfl
    (fun f fn hf hfn => by
      obtain rfl : f = 8 := Option.some.inj ((show Tryd.prog.funcNamed "unravel/unravellaw03.PlanarBinary" = some 8 by kernel_rfl).symm.trans hf) |>.symm
      obtain rfl : fn = Tryd.f8 := (Option.some.inj (Tryd.func8.symm.trans hfn)).symm
      exact ⟨by kernel_rfl, fun j t ht => by
        rw [Tryd.params8] at ht
        have hm : t ∈ [24, 39, 5] := by simpa using Array.mem_of_getElem? ht
        have hall : ([24, 39, 5].all fun u => !Tryd.prog.wantsStandIn u) = true := by kernel_rfl
        exact (show Tryd.prog.wantsStandIn t = false by simpa using List.all_eq_true.1 hall t hm)⟩)
    (by kernel_rfl)

end Go.Proofs.YtebliaclleplgaaDoor
