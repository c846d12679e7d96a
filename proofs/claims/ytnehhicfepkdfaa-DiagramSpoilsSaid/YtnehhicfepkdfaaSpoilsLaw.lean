/- For every diagram and every number the law DiagramSpoils returns true, and its arguments read afterwards as before. No condition. -/
import Derived.Test.YtnehhicfepkdfaaSpoil
import Derived.Test.YtnehhicfepkdfaaValidLaw
namespace Go.Proofs.Ytnehhicfepkdfaa
open Go.ChangeShapes Go.WideShapes Go.ChangeAt Go.RowKit Go.Joins

theorem OI.capN {w : World} {B n cap : Nat} {A : Option Addr} {xs : List Int} (h : OI w B (.slice A n cap) xs) : n ≤ cap := by
  rcases h.2 with ⟨e, _⟩ | ⟨g, cp, cur, e, _, _, h1, _⟩
  · injection e with _ e1 e2; omega
  · injection e with _ e1 e2; omega
theorem RI.take {w : World} {A : Option Addr} {n k : Nat} {xs : List Int} (h : RI w A n xs) (hk : k ≤ n) : RI w A k (xs.take k) := by
  refine ⟨by rw [List.length_take, h.1]; omega, fun h0 => ?_⟩
  obtain ⟨b, off, e, hb, hc⟩ := h.2 (by omega)
  refine ⟨b, off, e, hb, fun j hj => ?_⟩
  rw [hc j (by omega)]
  simp [List.getD, List.getElem?_take, hj]
theorem mt_take {m : List Int} {k j : Nat} (hj : j < k) : mt (m.take k) j = mt m j := by
  simp [mt, List.getD, List.getElem?_take, hj]
theorem RI.setc {w : World} {g n cap B : Nat} {xs : List Int} (h : OI w B (.slice (some ⟨g, 0, none⟩) n cap) xs) (hl : xs.length = n) (j : Nat) (z : Int) : RI (w.setCell ⟨g, j, none⟩ (.int .i64 z)) (some ⟨g, 0, none⟩) n (xs.set j z) := (h.set_ hl j z).1.ri

set_option maxHeartbeats 12800000 in
set_option maxRecDepth 100000 in
theorem spoils_walk (A B : Option Addr) (ns cs nm cm : Nat) (lp x : Int) (s m : List Int) (w : World) (hs : RI w A ns s) (hm : RI w B nm m) (hns : ns ≤ 9223372036854775807) (hnm : nm ≤ 9223372036854775807) (hmI : ∀ z ∈ m, inI z) (hx0 : 0 ≤ x) (hx1 : x ≤ 65535) :
    Calls Try.prog 10 #[dval A ns cs B nm cm lp, .int .u16 x] w fun e w' => e = .returned (.bool true) ∧ Below w.heap.size w w' := by
  have hd := DB.new w A ns cs B nm cm lp
  have hb0 := below_alloc w (dbox A ns cs B nm cm lp)
  go_enter Try.func10, Try.ntmps10
  go_wp2_with fail
  refine (awake_any _).mono ?_
  rintro e w1 ⟨rfl, hb1⟩
  have hd1 := hd.keep hb1
  have hw1 := below_step hb0 hb1
  clear hd hb0 hb1
  have HD := Lib.hid hd1
  cases hg : grB ns nm with
  | true =>
    have CG := Lib.hid (great_big A B ns cs nm cm lp w1 hns hnm true hg)
    obtain ⟨d0, d1, d2, dlt⟩ := hd1
    clear hg hs hm hmI
    go_wp2_with (go_at_call 12; ((with_reducible refine CG.out.mono ?_); rintro e w2 ⟨rfl, hb2⟩))
    go_ret
    exact ⟨rfl, below_step hw1 hb2⟩
  | false =>
    have CG := Lib.hid (great_big A B ns cs nm cm lp w1 hns hnm false hg)
    obtain ⟨b1, b2⟩ := grB_out hg
    have H := Lib.hid (DV.mk' (hs.keep hw1) (hm.keep hw1) hmI hg)
    obtain ⟨d0, d1, d2, dlt⟩ := hd1
    have CV : ∀ (r : Bool), validB s m lp = r → ∀ W : World, Below w1.heap.size w1 W → Hid (Calls Try.prog 16 #[dval A ns cs B nm cm lp] W fun e w' => e = .returned (.bool r) ∧ Below W.heap.size W w') := fun r hr W hb => (H.out.keep hb).valid cs cm lp r hr
    clear hg hs hm hmI hns hnm
    cases hv : validB s m lp with
    | false =>
      have CVF := CV false hv
      clear CV hv
      go_wp2_with (first
        | (go_at_call 12; ((with_reducible refine CG.out.mono ?_); rintro e w2 ⟨rfl, hb2⟩; have e0 := (hb2.cell (p := ⟨w.heap.size, 0, none⟩) dlt).trans d0; have e1 := (hb2.cell (p := ⟨w.heap.size, 1, none⟩) dlt).trans d1; have e2 := (hb2.cell (p := ⟨w.heap.size, 2, none⟩) dlt).trans d2))
        | (go_at_call 16; ((with_reducible refine (CVF _ hb2).out.mono ?_); rintro e w3 ⟨rfl, hb3⟩)))
      go_ret
      exact ⟨rfl, below_step hw1 (below_step hb2 hb3)⟩
    | true =>
      have CVT := CV true hv
      clear CV
      have hls := H.out.hs.1
      have hlm := H.out.hm.1
      by_cases h0 : ns = 0
      · subst h0
        clear hv hls hlm
        go_wp2_with (first
          | (go_at_call 12; ((with_reducible refine CG.out.mono ?_); rintro e w2 ⟨rfl, hb2⟩; have e0 := (hb2.cell (p := ⟨w.heap.size, 0, none⟩) dlt).trans d0; have e1 := (hb2.cell (p := ⟨w.heap.size, 1, none⟩) dlt).trans d1; have e2 := (hb2.cell (p := ⟨w.heap.size, 2, none⟩) dlt).trans d2; have elt := Nat.lt_of_lt_of_le dlt hb2.size))
          | (go_at_call 16; ((with_reducible refine (CVT _ hb2).out.mono ?_); rintro e w3 ⟨rfl, hb3⟩; have f0 := (hb3.cell (p := ⟨w.heap.size, 0, none⟩) elt).trans e0)))
        go_ret
        exact ⟨rfl, below_step hw1 (below_step hb2 hb3)⟩
      · have hl4 : nm = 4 * ns := by
          obtain ⟨v1, v2, v3, v4⟩ := validB_out hv
          have := (limB_out v1).2.1
          omega
        obtain ⟨c, hct⟩ : ∃ c : Nat, x.tmod (ns : Int) = (c : Int) := ⟨(x.tmod (ns : Int)).toNat, by have := Int.tmod_nonneg (ns : Int) hx0; omega⟩
        have hcn : c < ns := by have := Int.tmod_lt_of_pos x (b := (ns : Int)) (by omega); omega
        have hnz : (ns : Int) ≠ 0 := by omega
        have hnz' : ((ns : Int) == 0) = false := by simp only [beq_eq_false_iff_ne, ne_eq]; omega
        have hwc : IntKind.i64.wrap (c : Int) = (c : Int) := IntWalk.i64_in _ (by omega)
        have hwx : IntKind.i64.wrap x = x := IntWalk.i64_in _ (by omega)
        have CC : ∀ W : World, Below w1.heap.size w1 W → Hid (Calls Try.prog 14 #[dval A ns cs B nm cm lp] W (ClonePost W ns nm lp s m)) := fun W hb => clone_any A B ns cs nm cm lp s m W (H.out.hs.keep hb) (H.out.hm.keep hb) (by omega) (by omega)
        have HL4 := Lib.hid hl4
        have HLS := Lib.hid hls
        have HLM := Lib.hid hlm
        have HV := Lib.hid hv
        have hns0 : 0 < ns := by omega
        clear hl4 h0 hls hlm hv
        go_upto_region 7 with (first
          | (go_at_call 12; ((with_reducible refine CG.out.mono ?_); rintro e w2 ⟨rfl, hb2⟩; have e0 := (hb2.cell (p := ⟨w.heap.size, 0, none⟩) dlt).trans d0; have e1 := (hb2.cell (p := ⟨w.heap.size, 1, none⟩) dlt).trans d1; have e2 := (hb2.cell (p := ⟨w.heap.size, 2, none⟩) dlt).trans d2; have elt := Nat.lt_of_lt_of_le dlt hb2.size))
          | (go_at_call 16; ((with_reducible refine (CVT _ hb2).out.mono ?_); rintro e w3 ⟨rfl, hb3⟩; have f0 := (hb3.cell (p := ⟨w.heap.size, 0, none⟩) elt).trans e0; have f1 := (hb3.cell (p := ⟨w.heap.size, 1, none⟩) elt).trans e1; have f2 := (hb3.cell (p := ⟨w.heap.size, 2, none⟩) elt).trans e2; have hb13 := below_step hb2 hb3))
          | (go_at_call 14; ((with_reducible refine (CC _ hb13).out.mono ?_); rintro e w4 ⟨P, pc, R, rc, rfl, oP, oR, hPR, hb4⟩)))
        have hb14 := below_step hb13 hb4
        have hbO := below_alloc w4 (dbox P ns pc R nm rc lp)
        have hb1O := below_step hb14 hbO
        obtain ⟨gP, pcx, hsl⟩ := oP.form_pos HLS.out hns0
        injection hsl with hsl1 hsl2 hsl3
        subst hsl1; subst hsl3
        have hgl := World.ownsRow.lt oP gP rfl
        obtain ⟨o0, o1, o2, olt⟩ := DB.new w4 (some ⟨gP, 0, none⟩) ns pc R nm rc lp
        have oP1 := oP.keep hbO
        have oR1 := oR.keep hbO
        have h13 := hb13.size
        have hsgn : s.getD c 0 = 1 ∨ s.getD c 0 = -1 := by
          have := (sgnsB_iff _).1 (validB_out HV.out).2.1 c (by rw [HLS.out]; exact hcn)
          unfold sgB at this
          simpa using this
        have hsp := spoil_sign HV.out c (by rw [HLS.out]; exact hcn)
        generalize w4.alloc (dbox (some ⟨gP, 0, none⟩) ns pc R nm rc lp) = wO at *
        have q0 := oP1.cell c (by rw [HLS.out]; exact hcn)
        have qf : wO.frozen? ⟨gP, c, none⟩ = false := by
          have := oP1
          unfold OI at this
          rw [HLS.out] at this
          exact World.ownsRow.frozenAt this c
        generalize s.getD c 0 = sc at *
        have hng : IntKind.i64.wrap (-sc) = -sc := IntWalk.i64_in _ (by omega)
        have HST := Lib.hid (OI.set_ oP1 HLS.out c (-sc))
        have hRne : (Value.slice R nm rc).ownBlock = none ∨ (Value.slice R nm rc).ownBlock ≠ some gP := by
          rcases hPR with k | k
          · cases k
          · exact .inr fun e => k e.symm
        have CVb := Lib.hid (DV.valid (w := (wO.setCell ⟨gP, c, none⟩ (.int .i64 (-sc))).drew) (signs := s.set c (-sc)) (mate := m) (A := some ⟨gP, 0, none⟩) (ns := ns) (B := R) (nm := nm) ⟨OI.ri (w := (wO.setCell ⟨gP, c, none⟩ (.int .i64 (-sc))).drew) HST.out.1, OI.ri (w := (wO.setCell ⟨gP, c, none⟩ (.int .i64 (-sc))).drew) (OI.grown (w' := wO.setCell ⟨gP, c, none⟩ (.int .i64 (-sc))) oR1 HST.out.2 hRne), by omega, by omega, H.out.hrange⟩ pc rc lp false hsp)
        have hbB : Below w1.heap.size w1 (wO.setCell ⟨gP, c, none⟩ (.int .i64 (-sc))).drew := (below_set hb1O (by omega) _).drew
        have k0 : (wO.setCell ⟨gP, c, none⟩ (.int .i64 (-sc))).drew.cell? ⟨w4.heap.size, 0, none⟩ = some (.slice (some ⟨gP, 0, none⟩) ns pc) := (World.cell?_setCell_other _ _ _ _ (by simp <;> omega)).trans o0
        have k1 : (wO.setCell ⟨gP, c, none⟩ (.int .i64 (-sc))).drew.cell? ⟨w4.heap.size, 1, none⟩ = some (.slice R nm rc) := (World.cell?_setCell_other _ _ _ _ (by simp <;> omega)).trans o1
        have k2 : (wO.setCell ⟨gP, c, none⟩ (.int .i64 (-sc))).drew.cell? ⟨w4.heap.size, 2, none⟩ = some (.int .i64 lp) := (World.cell?_setCell_other _ _ _ _ (by simp <;> omega)).trans o2
        have HBB := Lib.hid hbB
        clear hbB HST hsp hRne hPR oP oR oP1 oR1 d0 d1 d2 e0 e1 e2 f0 f1 f2 CG CVT hsgn
        go_region
        generalize (wO.setCell ⟨gP, c, none⟩ (.int .i64 (-sc))).drew = wS at *
        clear q0 qf o0 o1 o2 hng
        go_upto_region 11 with (first
          | (go_at_call 16; ((with_reducible refine CVb.out.mono ?_); rintro e w5 ⟨rfl, hb5⟩; have hb15 := below_step HBB.out hb5; have hdb := HD.out.keep hb15; obtain ⟨e0, e1, e2, elt2⟩ := hdb))
          | (go_at_call 14; ((with_reducible refine (CC _ hb15).out.mono ?_); rintro e w6 ⟨P2, pc2, R2, rc2, rfl, oP2, oR2, hPR2, hb6⟩)))
        have hb16 := below_step hb15 hb6
        have h14 := HL4.out
        obtain ⟨gR, rcx, hsl⟩ := oR2.form_pos HLM.out (by omega)
        injection hsl with hsl1 hsl2 hsl3
        subst hsl1; subst hsl3
        obtain ⟨k, hk⟩ : ∃ k, nm = k + 1 := ⟨nm - 1, by omega⟩
        have hcap := oR2.capN
        have hsub : IntKind.i64.wrap ((nm : Int) - 1) = (k : Int) := by rw [IntWalk.i64_in _ (by omega)]; omega
        have hk0 : (0 : Int) ≤ (k : Int) := Int.natCast_nonneg _
        have hkc : (k : Int) ≤ (rc2 : Int) := by omega
        have hkc' : k ≤ rc2 := by omega
        have hrc : ¬ rc2 = 0 := by omega
        have HK := Lib.hid hk
        clear hk h14 hcap CVb k0 k1 k2 HBB
        go_upto_region 12 with fail
        have hb7 := below_alloc w6 (dbox P2 ns pc2 (some ⟨gR, 0, none⟩) k rc2 lp)
        have hb17 := below_step hb16 hb7
        obtain ⟨s0, s1, s2, slt⟩ := DB.new w6 P2 ns pc2 (some ⟨gR, 0, none⟩) k rc2 lp
        have oP2' := oP2.keep hb7
        have oR2' := oR2.keep hb7
        generalize w6.alloc (dbox P2 ns pc2 (some ⟨gR, 0, none⟩) k rc2 lp) = w7 at *
        have Hs := Lib.hid (show DV w7 P2 ns (some ⟨gR, 0, none⟩) k s (m.take k) from ⟨oP2'.ri, oR2'.ri.take (by have := HK.out; omega), by omega, by have := HK.out; omega, fun j hj => by rw [mt_take hj]; exact H.out.hrange j (by have := HK.out; omega)⟩)
        have vs := spoil_short HV.out (mate' := m.take k) (by rw [List.length_take, HLM.out]; have := HK.out; omega)
        have CVs : ∀ W : World, Below w7.heap.size w7 W → Hid (Calls Try.prog 16 #[dval P2 ns pc2 (some ⟨gR, 0, none⟩) k rc2 lp] W fun e w' => e = .returned (.bool false) ∧ Below W.heap.size W w') := fun W hb => DV.valid (Hs.out.keep hb) pc2 rc2 lp false vs
        clear oP2 oR2 oP2' oR2' e0 e1 e2 elt2 hsub hk0 hkc hkc' hrc hPR2
        obtain ⟨e0, e1, e2, elt2⟩ := HD.out.keep hb17
        go_upto_region 14 with (go_at_call 14; ((with_reducible refine (CC _ hb17).out.mono ?_); rintro e w8 ⟨P3, pc3, R3, rc3, rfl, oP3, oR3, hPR3, hb8⟩))
        have hb9 := below_alloc w8 (dbox P3 ns pc3 R3 nm rc3 65)
        have hb79 := below_step hb8 hb9
        have hb19 := below_step hb17 hb79
        obtain ⟨m0, m1, m2, mlt⟩ := DB.new w8 P3 ns pc3 R3 nm rc3 65
        have oP3' := oP3.keep hb9
        have oR3' := oR3.keep hb9
        generalize w8.alloc (dbox P3 ns pc3 R3 nm rc3 65) = w9 at *
        have Hm := Lib.hid (show DV w9 P3 ns R3 nm s m from ⟨oP3'.ri, oR3'.ri, by omega, by omega, H.out.hrange⟩)
        have CVm : ∀ W : World, Below w9.heap.size w9 W → Hid (Calls Try.prog 16 #[dval P3 ns pc3 R3 nm rc3 65] W fun e w' => e = .returned (.bool false) ∧ Below W.heap.size W w') := fun W hb => DV.valid (Hm.out.keep hb) pc3 rc3 65 false spoil_many
        clear oP3 oR3 oP3' oR3' e0 e1 e2 elt2 hPR3
        obtain ⟨e0, e1, e2, elt2⟩ := HD.out.keep hb19
        go_upto_region 15 with (go_at_call 14; ((with_reducible refine (CC _ hb19).out.mono ?_); rintro e w10 ⟨P4, pc4, R4, rc4, rfl, oP4, oR4, hPR4, hb10⟩))
        obtain ⟨gZ, pcx, hsl⟩ := oP4.form_pos HLS.out hns0
        injection hsl with hsl1 hsl2 hsl3
        subst hsl1; subst hsl3
        have hb11 := below_alloc w10 (dbox (some ⟨gZ, 0, none⟩) ns pc4 R4 nm rc4 lp)
        have hb911 := below_step hb10 hb11
        obtain ⟨z0, z1, z2, zlt⟩ := DB.new w10 (some ⟨gZ, 0, none⟩) ns pc4 R4 nm rc4 lp
        have hgz := World.ownsRow.lt oP4 gZ rfl
        have oP4' := oP4.keep hb11
        have oR4' := oR4.keep hb11
        generalize w10.alloc (dbox (some ⟨gZ, 0, none⟩) ns pc4 R4 nm rc4 lp) = w11 at *
        have q0 := oP4'.cell c (by rw [HLS.out]; exact hcn)
        have qf : w11.frozen? ⟨gZ, c, none⟩ = false := by
          have := oP4'
          unfold OI at this
          rw [HLS.out] at this
          exact World.ownsRow.frozenAt this c
        have hz := Lib.hid (OI.set_ oP4' HLS.out c 0)
        have hRz : (Value.slice R4 nm rc4).ownBlock = none ∨ (Value.slice R4 nm rc4).ownBlock ≠ some gZ := by
          rcases hPR4 with k | k
          · cases k
          · exact .inr fun e => k e.symm
        have Hz := Lib.hid (show DV (w11.setCell ⟨gZ, c, none⟩ (.int .i64 0)) (some ⟨gZ, 0, none⟩) ns R4 nm (s.set c 0) m from ⟨hz.out.1.ri, (OI.grown oR4' hz.out.2 hRz).ri, by omega, by omega, H.out.hrange⟩)
        have vz := spoil_zero (signs := s) (mate := m) (lp := lp) c (by rw [HLS.out]; exact hcn)
        have hbZ9 : Below w9.heap.size w9 (w11.setCell ⟨gZ, c, none⟩ (.int .i64 0)) := below_set hb911 (by omega) _
        have z0' : (w11.setCell ⟨gZ, c, none⟩ (.int .i64 0)).cell? ⟨w10.heap.size, 0, none⟩ = some (.slice (some ⟨gZ, 0, none⟩) ns pc4) := (World.cell?_setCell_other _ _ _ _ (by simp <;> omega)).trans z0
        have z1' : (w11.setCell ⟨gZ, c, none⟩ (.int .i64 0)).cell? ⟨w10.heap.size, 1, none⟩ = some (.slice R4 nm rc4) := (World.cell?_setCell_other _ _ _ _ (by simp <;> omega)).trans z1
        have z2' : (w11.setCell ⟨gZ, c, none⟩ (.int .i64 0)).cell? ⟨w10.heap.size, 2, none⟩ = some (.int .i64 lp) := (World.cell?_setCell_other _ _ _ _ (by simp <;> omega)).trans z2
        have zlt' : w10.heap.size < (w11.setCell ⟨gZ, c, none⟩ (.int .i64 0)).heap.size := by simpa using zlt
        clear hz oP4 oR4 oP4' oR4' hRz hPR4 e0 e1 e2 elt2
        go_upto_region 16 with fail
        generalize w11.setCell ⟨gZ, c, none⟩ (.int .i64 0) = wZ at *
        clear q0 qf z0 z1 z2 zlt
        have CVz : ∀ W : World, Below wZ.heap.size wZ W → Hid (Calls Try.prog 16 #[dval (some ⟨gZ, 0, none⟩) ns pc4 R4 nm rc4 lp] W fun e w' => e = .returned (.bool false) ∧ Below W.heap.size W w') := fun W hb => DV.valid (Hz.out.keep hb) pc4 rc4 lp false vz
        have hb7Z := below_step hb79 hbZ9
        have hb1Z := below_step hb19 hbZ9
        have a0 := (hb7Z.cell (p := ⟨w6.heap.size, 0, none⟩) slt).trans s0
        have a1 := (hb7Z.cell (p := ⟨w6.heap.size, 1, none⟩) slt).trans s1
        have a2 := (hb7Z.cell (p := ⟨w6.heap.size, 2, none⟩) slt).trans s2
        have n0 := (hbZ9.cell (p := ⟨w8.heap.size, 0, none⟩) mlt).trans m0
        have n1 := (hbZ9.cell (p := ⟨w8.heap.size, 1, none⟩) mlt).trans m1
        have n2 := (hbZ9.cell (p := ⟨w8.heap.size, 2, none⟩) mlt).trans m2
        have nlt := Nat.lt_of_lt_of_le mlt hbZ9.size
        clear s0 s1 s2 m0 m1 m2
        go_wp2_with (first
          | (go_at_call 16; ((with_reducible refine (CVs _ hb7Z).out.mono ?_); rintro e y1 ⟨rfl, hc1⟩; have n0' := (hc1.cell (p := ⟨w8.heap.size, 0, none⟩) nlt).trans n0; have n1' := (hc1.cell (p := ⟨w8.heap.size, 1, none⟩) nlt).trans n1; have n2' := (hc1.cell (p := ⟨w8.heap.size, 2, none⟩) nlt).trans n2))
          | (go_at_call 16; ((with_reducible refine (CVm _ (below_step hbZ9 hc1)).out.mono ?_); rintro e y2 ⟨rfl, hc2⟩; have hc12 := below_step hc1 hc2; have v0 := (hc12.cell (p := ⟨w10.heap.size, 0, none⟩) zlt').trans z0'; have v1 := (hc12.cell (p := ⟨w10.heap.size, 1, none⟩) zlt').trans z1'; have v2 := (hc12.cell (p := ⟨w10.heap.size, 2, none⟩) zlt').trans z2'))
          | (go_at_call 16; ((with_reducible refine (CVz _ hc12).out.mono ?_); rintro e y3 ⟨rfl, hc3⟩)))
        go_ret
        exact ⟨rfl, below_step hw1 (below_step hb1Z (below_step hc12 hc3))⟩

end Go.Proofs.Ytnehhicfepkdfaa
