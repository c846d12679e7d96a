import Derived.Test.YtdamfoobnbjojaaM11
/- For every diagram and all numbers the law MirrorUndoes returns true, and its arguments read afterwards as before. No condition. -/
namespace Go.Proofs.Ytdamfoobnbjojaa
open Go.ChangeShapes Go.WideShapes Go.ChangeAt Go.RowKit Go.Joins

set_option maxHeartbeats 6400000 in
set_option maxRecDepth 100000 in
theorem mirrorundoes_walk (A B : Option Addr) (ns cs nm cm : Nat) (lp : Int) (s m : List Int) (op k : Nat) (w : World) (hs : RI w A ns s) (hm : RI w B nm m) (hns : ns ≤ 9223372036854775807) (hnm : nm ≤ 9223372036854775807) (hmI : ∀ z ∈ m, inI z) (ho : op ≤ 255) (hk : k ≤ 255) :
    Calls Try.prog 5 #[dval A ns cs B nm cm lp, .int .u8 (op : Nat), .int .u8 (k : Nat)] w fun e w' => e = .returned (.bool true) ∧ Below w.heap.size w w' := by
  have hd := DB.new w A ns cs B nm cm lp
  have hb0 := below_alloc w (dbox A ns cs B nm cm lp)
  have HD := Lib.hid hd
  have HB := Lib.hid hb0
  obtain ⟨d0, d1, d2, dlt⟩ := hd
  have CA : ∀ W : World, Hid (Calls Try.prog 11 #[] W fun e w' => e = .returned (.bool true) ∧ Below W.heap.size W w') := fun W => Lib.hid (mawake_any W)
  have CF : ∀ W : World, Hid (Calls Try.prog 12 #[dval A ns cs B nm cm lp] W fun e w' => e = .returned (.bool (fewM ns nm)) ∧ Below W.heap.size W w') := fun W => Lib.hid (mfew_any A B ns cs nm cm lp W hns hnm)
  cases hf : fewM ns nm with
  | false =>
    rw [hf] at CF
    clear hf hs hm hmI hb0
    go_enter Try.func5, Try.ntmps5
    go_wp2_with (first
      | (go_at_call 12; ((with_reducible refine (CF _).out.mono ?_); rintro e w2 ⟨rfl, hb2⟩))
      | (go_at_call 11; ((with_reducible refine (CA w2).out.mono ?_); rintro e w3 ⟨rfl, hb3⟩))
      | (go_at_call 11; ((with_reducible refine (CA _).out.mono ?_); rintro e w1 ⟨rfl, hb1⟩; have y0 := (hb1.cell (p := ⟨w.heap.size, 0, none⟩) dlt).trans d0; have y1 := (hb1.cell (p := ⟨w.heap.size, 1, none⟩) dlt).trans d1; have y2 := (hb1.cell (p := ⟨w.heap.size, 2, none⟩) dlt).trans d2)))
    go_ret
    exact ⟨rfl, below_step HB.out (below_step hb1 (below_step hb2 hb3))⟩
  | true =>
    rw [hf] at CF
    have H := Lib.hid (DV.ofI hs hm hmI hf)
    obtain ⟨hn14, hn70⟩ := fewM_out hf
    clear hf hs hm hmI hb0 hns hnm
    have CV : ∀ W : World, Below w.heap.size w W → Hid (Calls Try.prog 29 #[dval A ns cs B nm cm lp] W fun e w' => e = .returned (.bool (validB s m lp)) ∧ Below W.heap.size W w') := fun W hW => Lib.hid ((H.out.keep hW).valid cs cm lp _ rfl)
    cases hv : validB s m lp with
    | false =>
      rw [hv] at CV
      clear hv
      go_enter Try.func5, Try.ntmps5
      go_wp2_with (first
        | (go_at_call 12; ((with_reducible refine (CF _).out.mono ?_); rintro e w2 ⟨rfl, hb2⟩; have hb12 := below_step hb1 hb2; have z0 := (hb12.cell (p := ⟨w.heap.size, 0, none⟩) dlt).trans d0; have z1 := (hb12.cell (p := ⟨w.heap.size, 1, none⟩) dlt).trans d1; have z2 := (hb12.cell (p := ⟨w.heap.size, 2, none⟩) dlt).trans d2))
        | (go_at_call 29; ((with_reducible refine (CV _ (below_step HB.out hb12)).out.mono ?_); rintro e w3 ⟨rfl, hb3⟩))
        | (go_at_call 11; ((with_reducible refine (CA w3).out.mono ?_); rintro e w4 ⟨rfl, hb4⟩))
        | (go_at_call 11; ((with_reducible refine (CA _).out.mono ?_); rintro e w1 ⟨rfl, hb1⟩; have y0 := (hb1.cell (p := ⟨w.heap.size, 0, none⟩) dlt).trans d0; have y1 := (hb1.cell (p := ⟨w.heap.size, 1, none⟩) dlt).trans d1; have y2 := (hb1.cell (p := ⟨w.heap.size, 2, none⟩) dlt).trans d2)))
      go_ret
      exact ⟨rfl, below_step HB.out (below_step hb12 (below_step hb3 hb4))⟩
    | true =>
      rw [hv] at CV
      have HV := Lib.hid hv
      clear hv
      go_enter Try.func5, Try.ntmps5
      go_upto_region 3 with (first
        | (go_at_call 12; ((with_reducible refine (CF _).out.mono ?_); rintro e w2 ⟨rfl, hb2⟩; have hb12 := below_step hb1 hb2; have z0 := (hb12.cell (p := ⟨w.heap.size, 0, none⟩) dlt).trans d0; have z1 := (hb12.cell (p := ⟨w.heap.size, 1, none⟩) dlt).trans d1; have z2 := (hb12.cell (p := ⟨w.heap.size, 2, none⟩) dlt).trans d2))
        | (go_at_call 29; ((with_reducible refine (CV _ (below_step HB.out hb12)).out.mono ?_); rintro e w3 ⟨rfl, hb3⟩))
        | (go_at_call 11; ((with_reducible refine (CA _).out.mono ?_); rintro e w1 ⟨rfl, hb1⟩; have y0 := (hb1.cell (p := ⟨w.heap.size, 0, none⟩) dlt).trans d0; have y1 := (hb1.cell (p := ⟨w.heap.size, 1, none⟩) dlt).trans d1; have y2 := (hb1.cell (p := ⟨w.heap.size, 2, none⟩) dlt).trans d2)))
      have hb13 := below_step hb12 hb3
      have HB3 := Lib.hid (below_step HB.out hb13)
      have hd3 := HD.out.keep hb13
      clear y0 y1 y2 z0 z1 z2 CV CF CA d0 d1 d2 hb1 hb2 hb3 hb12 hb13
      obtain ⟨hnm, hns64, _, _, hlp0, hlp1⟩ := valid_data HV.out H.out.hs.1 H.out.hm.1
      have hst := strandsM_le (signs := s) (mate := m) (lp := lp)
      rw [H.out.hm.1] at hst
      have HLS := Lib.hid H.out.hs.1
      have HNM := Lib.hid hnm
      obtain ⟨C, hC⟩ : ∃ C : Nat, compM s m lp = (C : Int) := ⟨(compM s m lp).toNat, by rw [compM_add HV.out]; omega⟩
      have hC1 : C ≤ 1000 := by have := compM_add HV.out; omega
      have HC := Lib.hid hC
      obtain ⟨d0, d1, d2, dlt3⟩ := hd3
      have HD3 := Lib.hid (show DB w3 w.heap.size A ns cs B nm cm lp from ⟨d0, d1, d2, dlt3⟩)
      obtain ⟨q, hq⟩ : ∃ q, op % 5 = q := ⟨_, rfl⟩
      have hq5 : q < 5 := by omega
      have iq : (op : Int) % 5 = (q : Int) := by omega
      have o0 : (0 : Int) ≤ (op : Int) := Int.natCast_nonneg _
      have o1 : (op : Int) ≤ 255 := by omega
      have k0 : (0 : Int) ≤ (k : Int) := Int.natCast_nonneg _
      have k1 : (k : Int) ≤ 255 := by omega
      have it5 : (op : Int).tmod 5 = (q : Int) := by rw [Int.tmod_eq_emod_of_nonneg o0]; omega
      have HQ5 := Lib.hid hq
      have C1 := Lib.hid (opU_any A B ns cs nm cm lp s m op k w3 (H.out.keep HB3.out) HV.out ho hk)
      clear hnm HD HB dlt hq hst hC
      go_upto_region 4 with (go_at_call 30; ((with_reducible refine C1.out.mono ?_); rintro e w4 ⟨A1, c1, B1, m1, s1, t1, rfl, rS1, rM1, hQ1, hb4⟩))
      have u := und1 hQ1 HV.out HLS.out
      have vd := valid_data u.1 rS1.1 rM1.1
      have dv1 : DV w4 A1 ns B1 nm s1 t1 := ⟨rS1, rM1, by omega, by omega, fun j hj => by have := vd.2.2.1 j hj; omega⟩
      have hX := bxD_new (cs := c1) (cm := m1) (lp := lp) dv1
      have hb4X := below_step hb4 (below_alloc w4 (.cells #[.slice A1 ns c1, .slice B1 nm m1, .int .i64 lp] 24))
      generalize w4.alloc (.cells #[.slice A1 ns c1, .slice B1 nm m1, .int .i64 lp] 24) = wX at hX hb4X ⊢
      obtain ⟨gx, hgx⟩ : ∃ gx, w4.heap.size = gx := ⟨_, rfl⟩
      rw [hgx] at hX ⊢
      have HX := Lib.hid hX
      have HQ1 := Lib.hid hQ1
      have HU := Lib.hid u
      have HBX := Lib.hid (below_step HB3.out hb4X)
      have HDX := Lib.hid (HD3.out.keep hb4X)
      clear hX hb4X hgx rS1 rM1 hQ1 hb4 dv1 u vd C1 d0 d1 d2
      obtain ⟨nf, hnf⟩ : ∃ nf, (facesM s m lp).length = nf := ⟨_, rfl⟩
      have HF2 := Lib.hid hnf
      have HF1 : Hid ((facesM s1 t1 lp).length = nf) := Lib.hid (HU.out.2.2.2.1.trans hnf)
      have HC1 : Hid (compM s1 t1 lp = (C : Int)) := Lib.hid (HU.out.2.2.2.2.trans HC.out)
      clear hnf
      have CVX : ∀ W, Below wX.heap.size wX W → Hid (Calls Try.prog 29 #[dval A1 ns c1 B1 nm m1 lp] W fun e w' => e = .returned (.bool true) ∧ Below W.heap.size W w') := fun W hW => Lib.hid ((HX.out.dv.keep hW).valid c1 m1 lp true HU.out.1)
      have CF1 : ∀ W, Below wX.heap.size wX W → Hid (Calls Try.prog 31 #[dval A1 ns c1 B1 nm m1 lp] W (CycsPost W (facesM s1 t1 lp))) := fun W hW => Lib.hid (faces_any A1 B1 ns c1 nm m1 lp s1 t1 W (HX.out.dv.keep hW))
      have CF2 : ∀ W, Below wX.heap.size wX W → Hid (Calls Try.prog 31 #[dval A ns cs B nm cm lp] W (CycsPost W (facesM s m lp))) := fun W hW => Lib.hid (faces_any A B ns cs nm cm lp s m W (H.out.keep (below_step HBX.out hW)))
      have CC1 : ∀ W, Below wX.heap.size wX W → Hid (Calls Try.prog 32 #[dval A1 ns c1 B1 nm m1 lp] W fun e w' => e = .returned (.int .i64 (C : Int)) ∧ Below W.heap.size W w') := fun W hW => Lib.hid (by
        have := components_any A1 B1 ns c1 nm m1 lp s1 t1 W (HX.out.dv.keep hW)
        rw [HC1.out] at this; exact this)
      have CC2 : ∀ W, Below wX.heap.size wX W → Hid (Calls Try.prog 32 #[dval A ns cs B nm cm lp] W fun e w' => e = .returned (.int .i64 (C : Int)) ∧ Below W.heap.size W w') := fun W hW => Lib.hid (by
        have := components_any A B ns cs nm cm lp s m W (H.out.keep (below_step HBX.out hW))
        rw [HC.out] at this; exact this)
      have HSS : Hid (∀ w' : World, Below wX.heap.size wX w' → w'.cell? ⟨w.heap.size, 0, none⟩ = some (.slice A ns cs) ∧ w'.cell? ⟨w.heap.size, 1, none⟩ = some (.slice B nm cm) ∧ w'.cell? ⟨w.heap.size, 2, none⟩ = some (.int .i64 lp) ∧ w'.cell? ⟨gx, 0, none⟩ = some (.slice A1 ns c1) ∧ w'.cell? ⟨gx, 1, none⟩ = some (.slice B1 nm m1) ∧ w'.cell? ⟨gx, 2, none⟩ = some (.int .i64 lp)) := Lib.hid (fun w' hW => by
        obtain ⟨a0, a1, a2, _⟩ := HDX.out.keep hW
        obtain ⟨b0, b1, b2, _⟩ := (HX.out.keep hW).box
        exact ⟨a0, a1, a2, b0, b1, b2⟩)
      have hbD : Below wX.heap.size wX wX.drew := (Below.refl _ _).drew
      have SD := HSS.out _ hbD
      have HSD := Lib.hid SD
      clear SD
      go_region_held3 (fun w' => w'.cell? ⟨w.heap.size, 0, none⟩ = some (.slice A ns cs) ∧ w'.cell? ⟨w.heap.size, 1, none⟩ = some (.slice B nm cm) ∧ w'.cell? ⟨w.heap.size, 2, none⟩ = some (.int .i64 lp) ∧ w'.cell? ⟨gx, 0, none⟩ = some (.slice A1 ns c1) ∧ w'.cell? ⟨gx, 1, none⟩ = some (.slice B1 nm m1) ∧ w'.cell? ⟨gx, 2, none⟩ = some (.int .i64 lp))
        (first | exact HSD.out | exact HS1.out | exact HS2.out | exact HS3.out | exact HS4.out | exact HS5.out | go_keep)
        (first
          | (go_at_call 29; ((with_reducible refine (CVX _ hbD).out.mono ?_); rintro e wa ⟨rfl, h1'⟩; have ha1 := below_step hbD h1'; have HS1 := Lib.hid (HSS.out _ ha1)))
          | (go_at_call 31; ((with_reducible refine (CF1 _ ha1).out.mono ?_); rintro e wb ⟨v, rfl, hov, h2'⟩; obtain ⟨Af, cf, hv1⟩ := hov.form; rw [HF1.out] at hv1; subst hv1; have ha2 := below_step ha1 h2'; have HS2 := Lib.hid (HSS.out _ ha2)))
          | (go_at_call 31; ((with_reducible refine (CF2 _ ha2).out.mono ?_); rintro e wc ⟨v, rfl, hov2, h3'⟩; obtain ⟨Ag, cg, hv2⟩ := hov2.form; rw [HF2.out] at hv2; subst hv2; have ha3 := below_step ha2 h3'; have HS3 := Lib.hid (HSS.out _ ha3)))
          | (go_at_call 32; ((with_reducible refine (CC1 _ ha3).out.mono ?_); rintro e wd ⟨rfl, h4'⟩; have ha4 := below_step ha3 h4'; have HS4 := Lib.hid (HSS.out _ ha4)))
          | (go_at_call 32; ((with_reducible refine (CC2 _ ha4).out.mono ?_); rintro e we ⟨rfl, h5'⟩; have ha5 := below_step ha4 h5'; have HS5 := Lib.hid (HSS.out _ ha5))))
      have HA5 := Lib.hid ha5
      clear CVX CF1 CF2 CC2 hbD h1' h2' h3' h4' h5' hov hov2 ha1 ha2 ha3 ha4 ha5
      obtain ⟨x0, x1, x2, xlt⟩ := (HX.out.keep HA5.out).box
      obtain ⟨y0, y1, y2, ylt⟩ := HDX.out.keep HA5.out
      rcases Nat.lt_or_ge q 4 with h4 | h4
      · have hq4 : ((q : Int) == 4) = false := by simp only [beq_eq_false_iff_ne, ne_eq]; omega
        have hq4' : (q : Int) ≠ 4 := by omega
        have C2 := Lib.hid (opU_any A1 B1 ns c1 nm m1 lp s1 t1 op k we (HX.out.dv.keep HA5.out) HU.out.1 ho hk)
        clear CC1
        go_upto_region 16 with (go_at_call 30; ((with_reducible refine C2.out.mono ?_); rintro e w6 ⟨A2, c2, B2, m2, s2, t2, rfl, rS2, rM2, hQ2, hb6⟩))
        obtain ⟨es, et⟩ := und2 (by rw [HQ5.out]; exact h4) HQ1.out hQ2 HV.out HLS.out
        rw [es] at rS2
        rw [et] at rM2
        have hY := DB.new w6 A2 ns c2 B2 nm m2 lp
        have hb6Y := below_step hb6 (below_alloc w6 (dbox A2 ns c2 B2 nm m2 lp))
        have rSY := rS2.keep (below_alloc w6 (dbox A2 ns c2 B2 nm m2 lp))
        have rMY := rM2.keep (below_alloc w6 (dbox A2 ns c2 B2 nm m2 lp))
        unfold dbox at hY hb6Y rSY rMY
        generalize w6.alloc (.cells #[.slice A2 ns c2, .slice B2 nm m2, .int .i64 lp] 24) = wY at hY hb6Y rSY rMY ⊢
        obtain ⟨gy, hgy⟩ : ∃ gy, w6.heap.size = gy := ⟨_, rfl⟩
        rw [hgy] at hY ⊢
        have hbAll := below_step HA5.out hb6Y
        have hDv := H.out.keep (below_step HBX.out hbAll)
        have HE := Lib.hid (equal_any A2 B2 A B ns c2 nm m2 ns cs nm cm lp lp s m s m wY rSY rMY hDv.hs hDv.hm (by omega) (by omega) (by omega) (by omega))
        rw [eqD_refl] at HE
        obtain ⟨u0, u1, u2, ult⟩ := hY
        obtain ⟨v0, v1, v2, vlt⟩ := HDX.out.keep hbAll
        have HF := Lib.hid (below_step HBX.out hbAll)
        clear hbAll hDv hb6Y rSY rMY rS2 rM2 es et hQ2 hb6 hgy x0 x1 x2 y0 y1 y2 C2
        go_wp2_with (go_at_call 33; ((with_reducible refine HE.out.mono ?_); rintro e w9 ⟨rfl, hb9⟩))
        go_ret
        exact ⟨rfl, below_step HF.out hb9⟩
      · have hq4 : ((q : Int) == 4) = true := by simp only [beq_iff_eq]; omega
        have hq4' : (q : Int) = 4 := by omega
        have HL4 := Lib.hid (und4 (by rw [HQ5.out]; omega) HQ1.out HV.out HLS.out)
        have CCe := CC1 _ HA5.out
        go_upto_region 8 with (go_at_call 32; ((with_reducible refine CCe.out.mono ?_); rintro e w6 ⟨rfl, hb6⟩))
        have HA6 := Lib.hid (below_step HA5.out hb6)
        have c0' : (0 : Int) ≤ (C : Int) := Int.natCast_nonneg _
        have c1' : (C : Int) ≤ 1000 := by omega
        clear x0 x1 x2 y0 y1 y2 xlt ylt hb6 CCe iq it5 hq4 hq4'
        go_loopw [9, 10, 11, 63] (fun _ _ _ i wr => ∃ j : Nat, j ≤ C ∧ i = .int .i64 j ∧ Below wX.heap.size wX wr ∧ Hid (∀ c : Nat, (c : Int) < compM s1 t1 lp → (∀ s2 m2, RoM s1 t1 lp ns c s2 m2 → s2 = s ∧ m2 = m) → j ≤ c)) (fun _ _ _ i _ => C - (intOf i).toNat)
        case atStart => exact ⟨0, by omega, rfl, HA6.out, Lib.hid fun c _ _ => Nat.zero_le c⟩
        case round =>
          obtain ⟨j, hj, rfl, hbr, HJ⟩ := hrel
          have hj0 : (0 : Int) ≤ (j : Int) := Int.natCast_nonneg _
          have HBR := Lib.hid hbr
          obtain ⟨x0, x1, x2, xlt⟩ := (HX.out.keep hbr).box
          obtain ⟨y0, y1, y2, ylt⟩ := HDX.out.keep hbr
          by_cases hjn : j < C
          · have hj1 : (j : Int) < (C : Int) := by omega
            have CR := Lib.hid (ro_any A1 B1 ns c1 nm m1 lp s1 t1 j wr (HX.out.dv.keep hbr) HU.out.1 (by have h1 := compM_add HU.out.1; have h2 := HC1.out; omega))
            clear hbr
            go_upto_region 11 with (go_at_call 22; ((with_reducible refine CR.out.mono ?_); rintro e w7 ⟨A2, c2, B2, m2, s2, t2, rfl, oS2, oM2, hR1, hR2, hb7⟩))
            have hR : RoM s1 t1 lp ns j s2 t2 := ⟨hR1, hR2⟩
            have hY := DB.new w7 A2 ns c2 B2 nm m2 lp
            have hb7Y := below_step hb7 (below_alloc w7 (dbox A2 ns c2 B2 nm m2 lp))
            have rSY := oS2.ri.keep (below_alloc w7 (dbox A2 ns c2 B2 nm m2 lp))
            have rMY := oM2.ri.keep (below_alloc w7 (dbox A2 ns c2 B2 nm m2 lp))
            unfold dbox at hY hb7Y rSY rMY
            generalize w7.alloc (.cells #[.slice A2 ns c2, .slice B2 nm m2, .int .i64 lp] 24) = wY at hY hb7Y rSY rMY ⊢
            obtain ⟨gy, hgy⟩ : ∃ gy, w7.heap.size = gy := ⟨_, rfl⟩
            rw [hgy] at hY ⊢
            have hbAll := below_step HBR.out hb7Y
            have hDv := H.out.keep (below_step HBX.out hbAll)
            have HE := Lib.hid (equal_any A2 B2 A B ns c2 nm m2 ns cs nm cm lp lp s2 t2 s m wY rSY rMY hDv.hs hDv.hm (by omega) (by omega) (by omega) (by omega))
            obtain ⟨r, hr⟩ : ∃ r, eqD s2 t2 lp s m lp = r := ⟨_, rfl⟩
            rw [hr] at HE
            obtain ⟨u0, u1, u2, ult⟩ := hY
            obtain ⟨v0, v1, v2, vlt⟩ := HDX.out.keep hbAll
            have HF := Lib.hid hbAll
            cases r with
            | true =>
              clear hbAll hDv hb7Y rSY rMY oS2 oM2 hR hR1 hR2 hb7 hgy x0 x1 x2 y0 y1 y2 hr CR
              go_wp2_with (go_at_call 33; ((with_reducible refine HE.out.mono ?_); rintro e w9 ⟨rfl, hb9⟩))
              go_ret
              exact ⟨rfl, below_step HBX.out (below_step HF.out hb9)⟩
            | false =>
              have HN : Hid (∀ c : Nat, (c : Int) < compM s1 t1 lp → (∀ s2 m2, RoM s1 t1 lp ns c s2 m2 → s2 = s ∧ m2 = m) → j + 1 ≤ c) := Lib.hid fun c hc hl => by
                have h1 := HJ.out c hc hl
                rcases Nat.lt_or_ge j c with h2 | h2
                · exact h2
                · obtain rfl : j = c := by omega
                  obtain ⟨e1, e2⟩ := hl s2 t2 hR
                  rw [e1, e2, eqD_refl] at hr
                  cases hr
              clear hbAll hDv hb7Y rSY rMY oS2 oM2 hR hR1 hR2 hb7 hgy x0 x1 x2 y0 y1 y2 hr CR
              go_wp2_with (go_at_call 33; ((with_reducible refine HE.out.mono ?_); rintro e w9 ⟨rfl, hb9⟩))
              go_roundw
              case rel => exact ⟨j + 1, by omega, by go_num, below_step HF.out hb9, HN⟩
              case measure => simp [intOf]; omega
          · have hC0 : C = 0 := by
              rcases HL4.out with h1 | ⟨c, h1, h2⟩
              · have := HC1.out; omega
              · have h3 := HJ.out c h1 h2; have := HC1.out; omega
            obtain rfl : j = C := by omega
            have CCr := CC1 _ hbr
            rw [hC0] at CCr
            have hjz : ((j : Int) == 0) = true := by simp only [beq_iff_eq]; omega
            clear hbr hjn hj
            go_wp2_with (go_at_call 32; ((with_reducible refine CCr.out.mono ?_); rintro e w9 ⟨rfl, hb9⟩))
            go_ret
            exact ⟨rfl, below_step HBX.out (below_step HBR.out hb9)⟩

end Go.Proofs.Ytdamfoobnbjojaa
