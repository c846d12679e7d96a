/- For every input, whatever memory it lies in, GaussSwitches returns true and its arguments read afterwards as before; the tables that the row lists are tied to the program's text. Conditions: the listed tables read as the text lays them. -/
import Derived.Test.YtdacjnmfmhkpiaaGreatDoorD30
import Derived.Test.YtdacjnmfmhkpiaaGreatDoorD27
import Derived.Test.YtdacjnmfmhkpiaaGreatDoorTie
namespace Go.Proofs.YtdacjnmfmhkpiaaGreatDoor
open Go.ChangeShapes Go.WideShapes Go.ChangeAt Go.RowKit Go.Joins

set_option maxRecDepth 100000 in
theorem switches_lifted (os : Os) (started : os.Started) (H : Type) (enc : TypeId × Value → H) :
    ReturnsInHanded {} Tryz.checked os 6 .any (fun w args => (Rows.gaussSwitchesSpec.pre enc Tryz.prog Tryz.f6 [] false w args ∧ laidMetH Tryz.prog gLaid w) ∧ sizedMet enc Tryz.prog Tryz.f6 (OpenSpec.ofChange Rows.gaussSwitchesSpec) false w args)
      (Rows.gaussSwitchesSpec.post enc Tryz.prog Tryz.f6 false true false false) := by
  refine returnsInHanded_of_change_and (C := Tryz.checked) (X := fun w _ => laidMetH Tryz.prog gLaid w) (fun _ _ _ hh h => h.of_heap hh) Tryz.own started (by kernel_rfl) Tryz.func6
    (ChangeSpec.witness_shaped (enc := enc) (C := Tryz.checked) (os := os) (X := fun w _ => laidMetH Tryz.prog gLaid w) false (World.doorLaid Tryz.prog 400 os) #[.agg #[.slice none 0 0, .slice none 0 0, .int .i64 0], .int .u8 0] 8 rfl (World.shaped_of_RefB (by kernel_rfl) (by kernel_rfl)) (by kernel_rfl) (by kernel_rfl) (by kernel_rfl) (door_met os _)) ?_
  intro W base args ds gs before hval0 hW _ hsz hL _
  have hval : ∀ (j : Nat) t v, Tryz.f6.params[j]? = some t → args[j]? = some v → Value.okWide Tryz.prog W .any base t v := hval0
  have hW' := hW
  obtain ⟨p, q, hA0, hV, rfl, hfz, hnd⟩ := hW
  have hA : DataW.TrodAll enc Tryz.prog W 0 (fun _ => true) true Tryz.f6.params.toList args.toList ds p := hA0
  rw [Tryz.params6] at hA hval
  obtain ⟨v0, v1, d0, d1, p0, p1, rfl, rfl, rfl, h0, h1⟩ := trodAll_two hA
  obtain ⟨rfl, rfl⟩ := trodVars_none hV
  obtain ⟨C, nc, cc, S, ns, cs, lp, vss, s, rfl, r1, r2, l1, l2, q1, q2, q3⟩ := open_code (hval 0 28 v0 rfl rfl) h0
  have hwB : ∀ k, k ∈ d0.weights Tryz.prog 28 → k ≤ 140737488351232 := fun k hk => by
    have h : decide (k ≤ reachBytes) = true := List.all_eq_true.1 hsz k (by
      refine DataW.weights_mem_each (j := 0) (t := 28) ?_ rfl k hk
      rw [show Tryz.f6.params = _ from Tryz.params6]
      rfl)
    have e : reachBytes = 140737488351232 := rfl
    rw [e] at h
    simpa using h
  have hB1 : nc ≤ 140737488351232 := by
    rcases l1 with l1 | ⟨k, l1, l3⟩
    · omega
    · exact Nat.le_trans l3 (hwB k l1)
  have hB2 : ∀ j, (vss.getD j []).length ≤ 140737488351232 := fun j => by
    rcases q1 j with l1 | ⟨k, l1, l3⟩
    · omega
    · exact Nat.le_trans l3 (hwB k l1)
  obtain ⟨x, rfl, rfl, rfl, wx⟩ := open_int Tryz.underlying5 (hval 1 5 v1 rfl rfl) h1
  have hx : 0 ≤ x ∧ x ≤ 255 := by
    have h1 : IntKind.u8.min = 0 := rfl
    have h2 : IntKind.u8.max = 255 := rfl
    simp [Lit.wf] at wx
    rw [h1, h2] at wx
    omega
  obtain ⟨xn, rfl⟩ := Int.eq_ofNat_of_zero_le hx.1
  refine (switches_walk C S nc cc ns cs xn lp vss s W r1 r2 l2 hB1 hB2 (tabW_of_laid hL) (by omega)).mono fun e W' ⟨he, hb⟩ => ?_
  subst he
  exact ⟨_, rfl, law_post (f := Tryz.f6) (by kernel_rfl) rfl (by rw [Tryz.params6]; decide +kernel) ⟨rfl, rfl, rfl⟩ hW' hb⟩

theorem switches_row : Rows.GaussSwitchesSaid :=
  OpenClaim.holds_of_wide 6 Tryz.f6 rfl rfl rfl rfl rfl rfl rfl ⟨rfl, rfl, rfl, rfl, rfl⟩ rfl rfl rfl rfl rfl (by kernel_rfl) Tryz.func6 (by kernel_rfl)
    (of_decide_eq_true (by kernel_rfl)) (by unfold Func.isWrapper; first | (rw [if_pos (by decide +kernel)]; kernel_rfl) | (rw [if_neg (by decide +kernel)]; exact ⟨rfl, rfl⟩))
    (fun os started H enc _ => switches_lifted os started H enc)

theorem switches_holds : Rows.GaussSwitchesCardSaid :=
  Claim7.holds_tied_plain_at .later [] Rows.gaussSwitchesCard.laidKinds true Rows.gaussSwitchesCard.stood.harness true
    switches_row (fun _ h => by cases h) (by kernel_rfl) (fun _ h => by cases h) gaussSwitches_row_tie rfl ⟨rfl, rfl⟩ (by kernel_rfl) rfl
    (fun f fn hf hfn => by
      obtain rfl : f = 6 := Option.some.inj ((show Tryz.prog.funcNamed "unravel/unravellaw02.GaussSwitches" = some 6 by kernel_rfl).symm.trans hf) |>.symm
      obtain rfl : fn = Tryz.f6 := (Option.some.inj (Tryz.func6.symm.trans hfn)).symm
      exact ⟨by kernel_rfl, fun j t ht => by
        rw [Tryz.params6] at ht
        have hm : t ∈ [28, 5] := by simpa using Array.mem_of_getElem? ht
        have hall : ([28, 5].all fun u => !Tryz.prog.wantsStandIn u) = true := by kernel_rfl
        exact (show Tryz.prog.wantsStandIn t = false by simpa using List.all_eq_true.1 hall t hm)⟩)
    (by kernel_rfl)

end Go.Proofs.YtdacjnmfmhkpiaaGreatDoor
