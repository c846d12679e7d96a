/- For every two diagrams the law DiagramValid returns true, and its arguments read afterwards as before. No condition. -/
import Derived.Test.YtnehhicfepkdfaaCopy
namespace Go.Proofs.Ytnehhicfepkdfaa
open Go.ChangeShapes Go.WideShapes Go.ChangeAt Go.RowKit Go.Joins

theorem OI.set_ {w : World} {B g n cap : Nat} {xs : List Int} (h : OI w B (.slice (some ⟨g, 0, none⟩) n cap) xs) (hl : xs.length = n) (j : Nat) (z : Int) :
    OI (w.setCell ⟨g, j, none⟩ (.int .i64 z)) B (.slice (some ⟨g, 0, none⟩) n cap) (xs.set j z) ∧ w.grownBy (w.setCell ⟨g, j, none⟩ (.int .i64 z)) (some g) := by
  subst hl
  have := World.ownsRow.stored h j (.int .i64 z)
  refine ⟨?_, this.2⟩
  unfold OI
  simpa [ints, List.map_set] using this.1

theorem OI.apart_lt {w : World} {B : Nat} {v : Value} {xs : List Int} (h : OI w B v xs) (row : Option Nat) (hr : ∀ g, row = some g → g < B) : v.ownBlock = none ∨ v.ownBlock ≠ row := by
  cases hv : v.ownBlock with
  | none => exact .inl rfl
  | some g =>
    refine .inr fun e => ?_
    have h1 := (World.ownsRow.lt h g hv).1
    have h2 := hr g e.symm
    omega

set_option maxHeartbeats 12800000 in
set_option maxRecDepth 100000 in
theorem valid_walk (A B A' B' : Option Addr) (ns cs nm cm ns' cs' nm' cm' : Nat) (lp lp' : Int) (s m s' m' : List Int) (w : World) (hs : RI w A ns s) (hm : RI w B nm m) (hs' : RI w A' ns' s') (hm' : RI w B' nm' m')
    (hns : ns ≤ 9223372036854775807) (hnm : nm ≤ 9223372036854775807) (hns' : ns' ≤ 9223372036854775807) (hnm' : nm' ≤ 9223372036854775807) (hmI : ∀ z ∈ m, inI z) :
    Calls Try.prog 3 #[dval A ns cs B nm cm lp, dval A' ns' cs' B' nm' cm' lp'] w fun e w' => e = .returned (.bool true) ∧ Below w.heap.size w w' := by
  have hba := below_alloc w (dbox A ns cs B nm cm lp)
  have hbb := below_alloc (w.alloc (dbox A ns cs B nm cm lp)) (dbox A' ns' cs' B' nm' cm' lp')
  have hb0 := below_step hba hbb
  have hd := (DB.new w A ns cs B nm cm lp).keep hbb
  have hd' := DB.new (w.alloc (dbox A ns cs B nm cm lp)) A' ns' cs' B' nm' cm' lp'
  have hsz : (w.alloc (dbox A ns cs B nm cm lp)).heap.size = w.heap.size + 1 := by simp
  rw [hsz] at hd'
  go_enter Try.func3, Try.ntmps3
  go_wp2_with fail
  refine (awake_any _).mono ?_
  rintro e w1 ⟨rfl, hb1⟩
  have hd1 := hd.keep hb1
  have hd1' := hd'.keep hb1
  have hw1 := below_step hb0 hb1
  clear hd hd' hb0 hb1 hba hbb hsz
  have HD := Lib.hid hd1
  have HD' := Lib.hid hd1'
  cases hg : grB ns nm with
  | true =>
    have CG := Lib.hid (great_big A B ns cs nm cm lp w1 hns hnm true hg)
    obtain ⟨d0, d1, d2, dlt⟩ := hd1
    clear hg hs hm hmI
    go_wp2_with (go_at_call 12; ((with_reducible refine CG.out.mono ?_); rintro e w2 ⟨rfl, hb2⟩))
    go_ret
    exact ⟨rfl, below_step hw1 hb2⟩
  | false =>
    have CG := Lib.hid (great_big A B ns cs nm cm lp w1 hns hnm false hg)
    cases hg' : grB ns' nm' with
    | true =>
      have CG' : ∀ W : World, Hid (Calls Try.prog 12 #[dval A' ns' cs' B' nm' cm' lp'] W fun e w' => e = .returned (.int .i64 1) ∧ Below W.heap.size W w') := fun W => great_big A' B' ns' cs' nm' cm' lp' W hns' hnm' true hg'
      obtain ⟨d0, d1, d2, dlt⟩ := hd1
      obtain ⟨d0', d1', d2', dlt'⟩ := hd1'
      clear hg hg' hs hm hmI
      go_wp2_with (first
        | (go_at_call 12; ((with_reducible refine CG.out.mono ?_); rintro e w2 ⟨rfl, hb2⟩; have e0' := (hb2.cell (p := ⟨w.heap.size + 1, 0, none⟩) dlt').trans d0'; have e1' := (hb2.cell (p := ⟨w.heap.size + 1, 1, none⟩) dlt').trans d1'; have e2' := (hb2.cell (p := ⟨w.heap.size + 1, 2, none⟩) dlt').trans d2'))
        | (go_at_call 12; ((with_reducible refine (CG' _).out.mono ?_); rintro e w3 ⟨rfl, hb3⟩)))
      go_ret
      exact ⟨rfl, below_step hw1 (below_step hb2 hb3)⟩
    | false =>
      have CG' : ∀ W : World, Hid (Calls Try.prog 12 #[dval A' ns' cs' B' nm' cm' lp'] W fun e w' => e = .returned (.int .i64 0) ∧ Below W.heap.size W w') := fun W => great_big A' B' ns' cs' nm' cm' lp' W hns' hnm' false hg'
      obtain ⟨b1, b2⟩ := grB_out hg
      obtain ⟨b3, b4⟩ := grB_out hg'
      have H := Lib.hid (DV.mk' (hs.keep hw1) (hm.keep hw1) hmI hg)
      have HS' := Lib.hid (hs'.keep hw1)
      have HM' := Lib.hid (hm'.keep hw1)
      obtain ⟨d0, d1, d2, dlt⟩ := hd1
      obtain ⟨d0', d1', d2', dlt'⟩ := hd1'
      have CP : ∀ W : World, Below w1.heap.size w1 W → Hid (Calls Try.prog 13 #[dval A ns cs B nm cm lp] W (ClonePost W ns nm lp s m)) := fun W hb => rcopy_any A B ns cs nm cm lp s m W (H.out.hs.keep hb) (H.out.hm.keep hb) (by omega) (by omega)
      clear hg hg' hs hm hs' hm' hmI hns hnm hns' hnm'
      go_upto_region 6 with (first
        | (go_at_call 12; ((with_reducible refine CG.out.mono ?_); rintro e w2 ⟨rfl, hb2⟩; have e0 := (hb2.cell (p := ⟨w.heap.size, 0, none⟩) dlt).trans d0; have e1 := (hb2.cell (p := ⟨w.heap.size, 1, none⟩) dlt).trans d1; have e2 := (hb2.cell (p := ⟨w.heap.size, 2, none⟩) dlt).trans d2; have elt := Nat.lt_of_lt_of_le dlt hb2.size; have e0' := (hb2.cell (p := ⟨w.heap.size + 1, 0, none⟩) dlt').trans d0'; have e1' := (hb2.cell (p := ⟨w.heap.size + 1, 1, none⟩) dlt').trans d1'; have e2' := (hb2.cell (p := ⟨w.heap.size + 1, 2, none⟩) dlt').trans d2'))
        | (go_at_call 12; ((with_reducible refine (CG' _).out.mono ?_); rintro e w3 ⟨rfl, hb3⟩; have f0 := (hb3.cell (p := ⟨w.heap.size, 0, none⟩) elt).trans e0; have f1 := (hb3.cell (p := ⟨w.heap.size, 1, none⟩) elt).trans e1; have f2 := (hb3.cell (p := ⟨w.heap.size, 2, none⟩) elt).trans e2; have hb13 := below_step hb2 hb3))
        | (go_at_call 13; ((with_reducible refine (CP _ hb13).out.mono ?_); rintro e w4 ⟨P, pc, R, rc, rfl, oP, oR, hPR, hb4⟩)))
      have hb14 := below_step hb13 hb4
      have hwF := below_step hw1 hb14
      have hb3s := hb13.size
      have hbO := below_alloc w4 (dbox P ns pc R nm rc lp)
      obtain ⟨o0, o1, o2, olt⟩ := DB.new w4 P ns pc R nm rc lp
      have oP1 := oP.keep hbO
      have oR1 := oR.keep hbO
      have eqT : eqD s m lp s m lp = true := by simp [eqD]
      have hszO : (w4.alloc (dbox P ns pc R nm rc lp)).heap.size = w4.heap.size + 1 := by simp
      have hPlt : ∀ g, (Value.slice P ns pc).ownBlock = some g → w3.heap.size ≤ g ∧ g < w4.heap.size := fun g e => World.ownsRow.lt oP g e
      have hRlt : ∀ g, (Value.slice R nm rc).ownBlock = some g → w3.heap.size ≤ g ∧ g < w4.heap.size := fun g e => World.ownsRow.lt oR g e
      generalize w4.alloc (dbox P ns pc R nm rc lp) = wO at *
      have CC : ∀ W : World, Below wO.heap.size wO W → Hid (Calls Try.prog 14 #[dval P ns pc R nm rc lp] W (ClonePost W ns nm lp s m)) := fun W hb => clone_any P R ns pc nm rc lp s m W (oP1.ri.keep hb) (oR1.ri.keep hb) (by omega) (by omega)
      have HPL := Lib.hid hPlt
      have HRL := Lib.hid hRlt
      have HPR := Lib.hid hPR
      clear d0 d1 d2 d0' d1' d2' e0 e1 e2 e0' e1' e2' f0 f1 f2 CG CG' CP oP oR hPlt hRlt hPR
      go_upto_region 7 with (go_at_call 14; ((with_reducible refine (CC _ (Below.refl _ _)).out.mono ?_); rintro e w5 ⟨X, xc, Y, yc, rfl, oX, oY, hXY, hb5⟩))
      have hbC := below_alloc w5 (dbox X ns xc Y nm yc lp)
      have hbOC := below_step hb5 hbC
      have p0 := (hbOC.cell (p := ⟨w4.heap.size, 0, none⟩) olt).trans o0
      have p1 := (hbOC.cell (p := ⟨w4.heap.size, 1, none⟩) olt).trans o1
      have p2 := (hbOC.cell (p := ⟨w4.heap.size, 2, none⟩) olt).trans o2
      obtain ⟨c0, c1, c2, clt⟩ := DB.new w5 X ns xc Y nm yc lp
      have oP2 := oP1.keep hbOC
      have oR2 := oR1.keep hbOC
      have oX2 := oX.keep hbC
      have oY2 := oY.keep hbC
      have hb1C := below_step hb14 (below_step hbO hbOC)
      have h5 := hb5.size
      have olt2 := Nat.lt_of_lt_of_le olt hbOC.size
      generalize w5.alloc (dbox X ns xc Y nm yc lp) = wC at *
      have CE : ∀ W : World, Below wC.heap.size wC W → Hid (Calls Try.prog 15 #[dval X ns xc Y nm yc lp, dval P ns pc R nm rc lp] W fun e w' => e = .returned (.bool true) ∧ Below W.heap.size W w') := fun W hb => by
        rw [← eqT]
        exact equal_any X Y P R ns xc nm yc ns pc nm rc lp lp s m s m W (oX2.ri.keep hb) (oY2.ri.keep hb) (oP2.ri.keep hb) (oR2.ri.keep hb) (by omega) (by omega) (by omega) (by omega)
      clear o0 o1 o2 oP1 oR1 oX oY CC hXY
      go_wp2_with (go_at_call 15; ((with_reducible refine (CE _ (Below.refl _ _)).out.mono ?_); rintro e wL ⟨rfl, hbL⟩; have q0 := (hbL.cell (p := ⟨w4.heap.size, 0, none⟩) olt2).trans p0; have q1 := (hbL.cell (p := ⟨w4.heap.size, 1, none⟩) olt2).trans p1))
      have oP3 := oP2.keep hbL
      have oR3 := oR2.keep hbL
      have oX3 := oX2.keep hbL
      have oY3 := oY2.keep hbL
      have k0 := (hbL.cell (p := ⟨w5.heap.size, 0, none⟩) clt).trans c0
      have k1 := (hbL.cell (p := ⟨w5.heap.size, 1, none⟩) clt).trans c1
      have k2 := (hbL.cell (p := ⟨w5.heap.size, 2, none⟩) clt).trans c2
      have hb1L := below_step hb1C hbL
      have oltL := Nat.lt_of_lt_of_le olt2 hbL.size
      have cltL := Nat.lt_of_lt_of_le clt hbL.size
      have HQ1 := Lib.hid q1
      have hlm := H.out.hm.1
      have hls := H.out.hs.1
      have HLM := Lib.hid hlm
      have HLS := Lib.hid hls
      have K0 := Lib.hid k0
      have K1 := Lib.hid k1
      have K2 := Lib.hid k2
      clear p0 p1 p2 c0 c1 c2 oP2 oR2 oX2 oY2 CE k0 k1 k2 hlm hls q1
      go_loopw [8, 30] (fun _ i wr => ∃ k : Nat, k ≤ nm ∧ i = .int .i64 k ∧ wL.grownBy wr (Value.slice R nm rc).ownBlock ∧ ∃ ys : List Int, ys.length = nm ∧ OI wr w3.heap.size (.slice R nm rc) ys) (fun _ i _ => nm - (intOf i).toNat)
      case atStart => exact ⟨0, by omega, rfl, World.grownBy.refl wL _, m, HLM.out, oR3⟩
      case round =>
        obtain ⟨k, hk, rfl, hgw, ys, hyl, hown⟩ := hrel
        have hk0 : (0 : Int) ≤ (k : Int) := Int.natCast_nonneg _
        by_cases hlt : k < nm
        · obtain ⟨gR, cR, hsl⟩ := hown.form_pos hyl (by omega)
          injection hsl with hsl1 hsl2 hsl3
          subst hsl1; subst hsl3
          have hgl := HRL.out gR rfl
          have hbox : wr.cell? ⟨w4.heap.size, 1, none⟩ = some (.slice (some ⟨gR, 0, none⟩) nm rc) := World.grownBy.cell hgw HQ1.out (by intro e; simp [Value.ownBlock] at e; omega)
          have hcell := hown.cell k (by omega)
          have hfz : wr.frozen? ⟨gR, k, none⟩ = false := by subst hyl; exact World.ownsRow.frozenAt hown k
          have hst := fun z => hown.set_ hyl k z
          have HST := Lib.hid hst
          have HGW := Lib.hid hgw
          clear hst hgw hown
          generalize ys.getD k 0 = y at *
          have hk1 : (k : Int) < (nm : Int) := by omega
          go_wp2
          go_roundw
          case rel => exact ⟨k + 1, by omega, by go_num, HGW.out.trans (HST.out _).2, _, by simp [hyl], (HST.out _).1⟩
          case measure => simp [intOf]; omega
        · obtain rfl : nm = k := by omega
          obtain ⟨wM, hwM⟩ : ∃ wM : World, wM = wr := ⟨_, rfl⟩
          subst hwM
          have oP4 := oP3.grown hgw HPR.out
          have oX4 := oX3.grown hgw (oX3.apart_lt _ fun g e => by have := (HRL.out g e).2; omega)
          have oY4 := oY3.grown hgw (oY3.apart_lt _ fun g e => by have := (HRL.out g e).2; omega)
          have K0' := Lib.hid (World.grownBy.cell hgw K0.out (fun e => by have := (HRL.out _ e.symm).2; simp at this; omega))
          have K1' := Lib.hid (World.grownBy.cell hgw K1.out (fun e => by have := (HRL.out _ e.symm).2; simp at this; omega))
          have K2' := Lib.hid (World.grownBy.cell hgw K2.out (fun e => by have := (HRL.out _ e.symm).2; simp at this; omega))
          have z0 := World.grownBy.cell hgw q0 (fun e => by have := (HRL.out _ e.symm).2; simp at this)
          have hb1M : Below w1.heap.size w1 wM := hb1L.grown hgw hb1L.size (fun g e => by have := (HRL.out g e).1; omega)
          have oltM := Nat.lt_of_lt_of_le oltL hgw.size
          have cltM := Nat.lt_of_lt_of_le cltL hgw.size
          have hZ0 := Lib.hid z0
          clear q0 hgw hown K0 K1 K2 oP3 oX3 oY3 oR3 HQ1 hyl hb1L hlt hk hk0
          go_wp2
          go_loopw [9, 44] (fun _ i wr => ∃ k : Nat, k ≤ ns ∧ i = .int .i64 k ∧ wM.grownBy wr (Value.slice P ns pc).ownBlock ∧ ∃ ys : List Int, ys.length = ns ∧ OI wr w3.heap.size (.slice P ns pc) ys) (fun _ i _ => ns - (intOf i).toNat)
          case atStart => exact ⟨0, by omega, rfl, World.grownBy.refl wM _, s, HLS.out, oP4⟩
          case round =>
            obtain ⟨k, hk, rfl, hgw, ys, hyl, hown⟩ := hrel
            have hk0 : (0 : Int) ≤ (k : Int) := Int.natCast_nonneg _
            by_cases hlt : k < ns
            · obtain ⟨gP, cP, hsl⟩ := hown.form_pos hyl (by omega)
              injection hsl with hsl1 hsl2 hsl3
              subst hsl1; subst hsl3
              have hgl := HPL.out gP rfl
              have hbox : wr.cell? ⟨w4.heap.size, 0, none⟩ = some (.slice (some ⟨gP, 0, none⟩) ns pc) := World.grownBy.cell hgw hZ0.out (by intro e; simp [Value.ownBlock] at e; omega)
              have hcell := hown.cell k (by omega)
              have hfz : wr.frozen? ⟨gP, k, none⟩ = false := by subst hyl; exact World.ownsRow.frozenAt hown k
              have hst := fun z => hown.set_ hyl k z
              have HST := Lib.hid hst
              have HGW := Lib.hid hgw
              clear hst hgw hown
              generalize ys.getD k 0 = y at *
              have hk1 : (k : Int) < (ns : Int) := by omega
              go_wp2
              go_roundw
              case rel => exact ⟨k + 1, by omega, by go_num, HGW.out.trans (HST.out _).2, _, by simp [hyl], (HST.out _).1⟩
              case measure => simp [intOf]; omega
            · obtain rfl : ns = k := by omega
              obtain ⟨wE, hwE⟩ : ∃ wE : World, wE = wr := ⟨_, rfl⟩
              subst hwE
              have oX5 := oX4.grown hgw (oX4.apart_lt _ fun g e => by have := (HPL.out g e).2; omega)
              have oY5 := oY4.grown hgw (oY4.apart_lt _ fun g e => by have := (HPL.out g e).2; omega)
              have k0 := World.grownBy.cell hgw K0'.out (fun e => by have := (HPL.out _ e.symm).2; simp at this; omega)
              have k1 := World.grownBy.cell hgw K1'.out (fun e => by have := (HPL.out _ e.symm).2; simp at this; omega)
              have k2 := World.grownBy.cell hgw K2'.out (fun e => by have := (HPL.out _ e.symm).2; simp at this; omega)
              have hbE : Below w1.heap.size w1 wE := hb1M.grown hgw hb1M.size (fun g e => by have := (HPL.out g e).1; omega)
              have cltE := Nat.lt_of_lt_of_le cltM hgw.size
              have HE := Lib.hid (H.out.keep hbE)
              have RS := Lib.hid (HS'.out.keep hbE)
              have RM := Lib.hid (HM'.out.keep hbE)
              obtain ⟨e0, e1, e2, elt⟩ := HD.out.keep hbE
              obtain ⟨e0', e1', e2', elt'⟩ := HD'.out.keep hbE
              have hwE2 := below_step hw1 hbE
              have rX := Lib.hid oX5.ri
              have rY := Lib.hid oY5.ri
              obtain ⟨r, hr⟩ : ∃ r, validB s m lp = r := ⟨_, rfl⟩
              obtain ⟨q, hq⟩ : ∃ q, eqD s m lp s' m' lp' = q := ⟨_, rfl⟩
              have CV : ∀ W : World, Below wE.heap.size wE W → Hid (Calls Try.prog 16 #[dval A ns cs B nm cm lp] W fun e w' => e = .returned (.bool r) ∧ Below W.heap.size W w') := fun W hb => (HE.out.keep hb).valid cs cm lp r hr
              have CRV : ∀ W : World, Below wE.heap.size wE W → Hid (Calls Try.prog 17 #[dval A ns cs B nm cm lp] W fun e w' => e = .returned (.bool r) ∧ Below W.heap.size W w') := fun W hb => (HE.out.keep hb).rvalid cs cm lp r hr
              have CAB : ∀ W : World, Below wE.heap.size wE W → Hid (Calls Try.prog 15 #[dval A ns cs B nm cm lp, dval A' ns' cs' B' nm' cm' lp'] W fun e w' => e = .returned (.bool q) ∧ Below W.heap.size W w') := fun W hb => by
                rw [← hq]
                exact equal_any A B A' B' ns cs nm cm ns' cs' nm' cm' lp lp' s m s' m' W (HE.out.hs.keep hb) (HE.out.hm.keep hb) (RS.out.keep hb) (RM.out.keep hb) (by omega) (by omega) (by omega) (by omega)
              have CRAB : ∀ W : World, Below wE.heap.size wE W → Hid (Calls Try.prog 18 #[dval A ns cs B nm cm lp, dval A' ns' cs' B' nm' cm' lp'] W fun e w' => e = .returned (.bool q) ∧ Below W.heap.size W w') := fun W hb => by
                rw [← hq]
                exact requal_any A B A' B' ns cs nm cm ns' cs' nm' cm' lp lp' s m s' m' W (HE.out.hs.keep hb) (HE.out.hm.keep hb) (RS.out.keep hb) (RM.out.keep hb) (by omega) (by omega) (by omega) (by omega)
              have CAA : ∀ W : World, Below wE.heap.size wE W → Hid (Calls Try.prog 15 #[dval A ns cs B nm cm lp, dval A ns cs B nm cm lp] W fun e w' => e = .returned (.bool true) ∧ Below W.heap.size W w') := fun W hb => by
                rw [← eqT]
                exact equal_any A B A B ns cs nm cm ns cs nm cm lp lp s m s m W (HE.out.hs.keep hb) (HE.out.hm.keep hb) (HE.out.hs.keep hb) (HE.out.hm.keep hb) (by omega) (by omega) (by omega) (by omega)
              have CCA : ∀ W : World, Below wE.heap.size wE W → Hid (Calls Try.prog 18 #[dval X ns xc Y nm yc lp, dval A ns cs B nm cm lp] W fun e w' => e = .returned (.bool true) ∧ Below W.heap.size W w') := fun W hb => by
                rw [← eqT]
                exact requal_any X Y A B ns xc nm yc ns cs nm cm lp lp s m s m W (rX.out.keep hb) (rY.out.keep hb) (HE.out.hs.keep hb) (HE.out.hm.keep hb) (by omega) (by omega) (by omega) (by omega)
              clear hgw hown K0' K1' K2' oX4 oY4 oP4 oX5 oY5 hyl hlt hk hk0 hr hq hZ0 eqT
              have hbD : Below wE.heap.size wE wE.drew := (Below.refl _ _).drew
              obtain ⟨gC, hgC⟩ : ∃ gC, w5.heap.size = gC := ⟨_, rfl⟩
              rw [hgC] at k0 k1 k2 cltE ⊢
              clear hgC
              go_upto_region 18 with fail
              go_region_held3 (fun w' => (w'.cell? ⟨w.heap.size, 0, none⟩ = some (.slice A ns cs) ∧ w'.cell? ⟨w.heap.size, 1, none⟩ = some (.slice B nm cm) ∧ w'.cell? ⟨w.heap.size, 2, none⟩ = some (.int .i64 lp)) ∧ (w'.cell? ⟨w.heap.size + 1, 0, none⟩ = some (.slice A' ns' cs') ∧ w'.cell? ⟨w.heap.size + 1, 1, none⟩ = some (.slice B' nm' cm') ∧ w'.cell? ⟨w.heap.size + 1, 2, none⟩ = some (.int .i64 lp')) ∧ w'.cell? ⟨gC, 0, none⟩ = some (.slice X ns xc) ∧ w'.cell? ⟨gC, 1, none⟩ = some (.slice Y nm yc) ∧ w'.cell? ⟨gC, 2, none⟩ = some (.int .i64 lp))
                (first
                  | go_keep
                  | exact ⟨⟨(z6.cell (p := ⟨w.heap.size, 0, none⟩) elt).trans e0, (z6.cell (p := ⟨w.heap.size, 1, none⟩) elt).trans e1, (z6.cell (p := ⟨w.heap.size, 2, none⟩) elt).trans e2⟩, ⟨(z6.cell (p := ⟨w.heap.size + 1, 0, none⟩) elt').trans e0', (z6.cell (p := ⟨w.heap.size + 1, 1, none⟩) elt').trans e1', (z6.cell (p := ⟨w.heap.size + 1, 2, none⟩) elt').trans e2'⟩, (z6.cell (p := ⟨gC, 0, none⟩) cltE).trans k0, (z6.cell (p := ⟨gC, 1, none⟩) cltE).trans k1, (z6.cell (p := ⟨gC, 2, none⟩) cltE).trans k2⟩
                  | exact ⟨⟨(z5.cell (p := ⟨w.heap.size, 0, none⟩) elt).trans e0, (z5.cell (p := ⟨w.heap.size, 1, none⟩) elt).trans e1, (z5.cell (p := ⟨w.heap.size, 2, none⟩) elt).trans e2⟩, ⟨(z5.cell (p := ⟨w.heap.size + 1, 0, none⟩) elt').trans e0', (z5.cell (p := ⟨w.heap.size + 1, 1, none⟩) elt').trans e1', (z5.cell (p := ⟨w.heap.size + 1, 2, none⟩) elt').trans e2'⟩, (z5.cell (p := ⟨gC, 0, none⟩) cltE).trans k0, (z5.cell (p := ⟨gC, 1, none⟩) cltE).trans k1, (z5.cell (p := ⟨gC, 2, none⟩) cltE).trans k2⟩
                  | exact ⟨⟨(z4.cell (p := ⟨w.heap.size, 0, none⟩) elt).trans e0, (z4.cell (p := ⟨w.heap.size, 1, none⟩) elt).trans e1, (z4.cell (p := ⟨w.heap.size, 2, none⟩) elt).trans e2⟩, ⟨(z4.cell (p := ⟨w.heap.size + 1, 0, none⟩) elt').trans e0', (z4.cell (p := ⟨w.heap.size + 1, 1, none⟩) elt').trans e1', (z4.cell (p := ⟨w.heap.size + 1, 2, none⟩) elt').trans e2'⟩, (z4.cell (p := ⟨gC, 0, none⟩) cltE).trans k0, (z4.cell (p := ⟨gC, 1, none⟩) cltE).trans k1, (z4.cell (p := ⟨gC, 2, none⟩) cltE).trans k2⟩
                  | exact ⟨⟨(z3.cell (p := ⟨w.heap.size, 0, none⟩) elt).trans e0, (z3.cell (p := ⟨w.heap.size, 1, none⟩) elt).trans e1, (z3.cell (p := ⟨w.heap.size, 2, none⟩) elt).trans e2⟩, ⟨(z3.cell (p := ⟨w.heap.size + 1, 0, none⟩) elt').trans e0', (z3.cell (p := ⟨w.heap.size + 1, 1, none⟩) elt').trans e1', (z3.cell (p := ⟨w.heap.size + 1, 2, none⟩) elt').trans e2'⟩, (z3.cell (p := ⟨gC, 0, none⟩) cltE).trans k0, (z3.cell (p := ⟨gC, 1, none⟩) cltE).trans k1, (z3.cell (p := ⟨gC, 2, none⟩) cltE).trans k2⟩
                  | exact ⟨⟨(z2.cell (p := ⟨w.heap.size, 0, none⟩) elt).trans e0, (z2.cell (p := ⟨w.heap.size, 1, none⟩) elt).trans e1, (z2.cell (p := ⟨w.heap.size, 2, none⟩) elt).trans e2⟩, ⟨(z2.cell (p := ⟨w.heap.size + 1, 0, none⟩) elt').trans e0', (z2.cell (p := ⟨w.heap.size + 1, 1, none⟩) elt').trans e1', (z2.cell (p := ⟨w.heap.size + 1, 2, none⟩) elt').trans e2'⟩, (z2.cell (p := ⟨gC, 0, none⟩) cltE).trans k0, (z2.cell (p := ⟨gC, 1, none⟩) cltE).trans k1, (z2.cell (p := ⟨gC, 2, none⟩) cltE).trans k2⟩
                  | exact ⟨⟨(z1.cell (p := ⟨w.heap.size, 0, none⟩) elt).trans e0, (z1.cell (p := ⟨w.heap.size, 1, none⟩) elt).trans e1, (z1.cell (p := ⟨w.heap.size, 2, none⟩) elt).trans e2⟩, ⟨(z1.cell (p := ⟨w.heap.size + 1, 0, none⟩) elt').trans e0', (z1.cell (p := ⟨w.heap.size + 1, 1, none⟩) elt').trans e1', (z1.cell (p := ⟨w.heap.size + 1, 2, none⟩) elt').trans e2'⟩, (z1.cell (p := ⟨gC, 0, none⟩) cltE).trans k0, (z1.cell (p := ⟨gC, 1, none⟩) cltE).trans k1, (z1.cell (p := ⟨gC, 2, none⟩) cltE).trans k2⟩)
                (first
                  | (go_at_call 16; ((with_reducible refine (CV _ hbD).out.mono ?_); rintro e y1 ⟨rfl, hc1⟩; have z1 := below_step hbD hc1))
                  | (go_at_call 17; ((with_reducible refine (CRV _ z1).out.mono ?_); rintro e y2 ⟨rfl, hc2⟩; have z2 := below_step z1 hc2))
                  | (go_at_call 15; ((with_reducible refine (CAB _ z2).out.mono ?_); rintro e y3 ⟨rfl, hc3⟩; have z3 := below_step z2 hc3))
                  | (go_at_call 18; ((with_reducible refine (CRAB _ z3).out.mono ?_); rintro e y4 ⟨rfl, hc4⟩; have z4 := below_step z3 hc4))
                  | (go_at_call 15; ((with_reducible refine (CAA _ z4).out.mono ?_); rintro e y5 ⟨rfl, hc5⟩; have z5 := below_step z4 hc5))
                  | (go_at_call 18; ((with_reducible refine (CCA _ z5).out.mono ?_); rintro e y6 ⟨rfl, hc6⟩; have z6 := below_step z5 hc6)))
              go_wp2
              go_ret
              exact ⟨rfl, below_step hwE2 z6⟩

end Go.Proofs.Ytnehhicfepkdfaa
