import Derived.Test.YtkfjledhnakfoaaA18
import Derived.Test.YtkfjledhnakfoaaA14
import Derived.Test.YtkfjledhnakfoaaA19
import Derived.Test.YtkfjledhnakfoaaA16
/- Walk: Factor at a cut. -/
namespace Go.Proofs.Ytkfjledhnakfoaa
open Go.RowKit

theorem dv_of {w : World} {A B : Option Addr} {ns nm : Nat} {s m : List Int} {lp : Int} (hs : RI w A ns s) (hm : RI w B nm m) (hv : validB s m lp = true) : DV w A ns B nm s m := by
  obtain ⟨h1, h2, h3, _, _⟩ := cn_data hv hs.1 hm.1
  refine ⟨hs, hm, by omega, by omega, fun j hj => ?_⟩
  obtain ⟨e, l⟩ := h3 j hj
  show -9223372036854775808 ≤ m.getD j 0 ∧ m.getD j 0 ≤ 9223372036854775807
  rw [e]; omega
/-- Two parts and an error number. -/
def FcPost (w : World) (k1 k2 : Nat) (s1 m1 s2 m2 : List Int) (e : Ending) (w' : World) : Prop :=
  ∃ A1 c1 B1 d1 A2 c2 B2 d2, e = .returned (.tuple #[dval A1 k1 c1 B1 (4 * k1) d1 0, dval A2 k2 c2 B2 (4 * k2) d2 0, .int .i64 0]) ∧
    OI w' w.heap.size (.slice A1 k1 c1) s1 ∧ OI w' w.heap.size (.slice B1 (4 * k1) d1) m1 ∧ OI w' w.heap.size (.slice A2 k2 c2) s2 ∧ OI w' w.heap.size (.slice B2 (4 * k2) d2) m2 ∧ Below w.heap.size w w'

set_option maxHeartbeats 12800000 in
set_option maxRecDepth 100000 in
theorem factor_yes (A B : Option Addr) (ns cs nm cm x y : Nat) (lp : Int) (s m : List Int) (w : World) (h : DV w A ns B nm s m) (hv : validB s m lp = true) (hx : x < nm) (hy : y < nm) (hox : outB s x = true) (hoy : outB s y = true)
    (hcut : (min x y, max x y) ∈ cutsM s m lp) (hve : validB s (exL m x y) lp = true) :
    Calls Try.prog 37 #[dval A ns cs B nm cm lp, .int .i64 (x : Nat), .int .i64 (y : Nat)] w
      (FcPost w (ptLen (exL m x y) ns (x / 4)) (ptLen (exL m x y) ns (y / 4)) (ptS s (ptPhi (exL m x y) ns (x / 4)) (ptLen (exL m x y) ns (x / 4))) (ptM (ptPhi (exL m x y) ns (x / 4)) (ptLen (exL m x y) ns (x / 4)) (matesOf (exL m x y)) (4 * ptLen (exL m x y) ns (x / 4)))
        (ptS s (ptPhi (exL m x y) ns (y / 4)) (ptLen (exL m x y) ns (y / 4))) (ptM (ptPhi (exL m x y) ns (y / 4)) (ptLen (exL m x y) ns (y / 4)) (matesOf (exL m x y)) (4 * ptLen (exL m x y) ns (y / 4)))) := by
  obtain ⟨hnm, hns, hM, _, _⟩ := cn_data hv h.hs.1 h.hm.1
  obtain ⟨ex, hex, lex⟩ : ∃ ex : Nat, m.getD x 0 = (ex : Int) ∧ ex < nm := ⟨_, (hM x hx).1, (hM x hx).2⟩
  obtain ⟨ey, hey, ley⟩ : ∃ ey : Nat, m.getD y 0 = (ey : Int) ∧ ey < nm := ⟨_, (hM y hy).1, (hM y hy).2⟩
  have hb1 := below_alloc w (dbox A ns cs B nm cm lp)
  have hb2 := below_alloc (w.alloc (dbox A ns cs B nm cm lp)) (.cells #[.slice none 0 0, .slice none 0 0, .int .i64 0] 24)
  have hb3 := below_alloc ((w.alloc (dbox A ns cs B nm cm lp)).alloc (.cells #[.slice none 0 0, .slice none 0 0, .int .i64 0] 24)) (.cells #[.slice none 0 0, .slice none 0 0, .int .i64 0] 24)
  have hd := ((DB.new w A ns cs B nm cm lp).keep hb2).keep hb3
  have hbx1 := (bxz_new (w.alloc (dbox A ns cs B nm cm lp))).kp hb3
  have hbx2 := bxz_new ((w.alloc (dbox A ns cs B nm cm lp)).alloc (.cells #[.slice none 0 0, .slice none 0 0, .int .i64 0] 24))
  have hb := below_step (below_step hb1 hb2) hb3
  have hsz : (w.alloc (dbox A ns cs B nm cm lp)).heap.size = w.heap.size + 1 := by simp
  have hsz2 : ((w.alloc (dbox A ns cs B nm cm lp)).alloc (.cells #[.slice none 0 0, .slice none 0 0, .int .i64 0] 24)).heap.size = w.heap.size + 2 := by simp
  have hsz3 : (((w.alloc (dbox A ns cs B nm cm lp)).alloc (.cells #[.slice none 0 0, .slice none 0 0, .int .i64 0] 24)).alloc (.cells #[.slice none 0 0, .slice none 0 0, .int .i64 0] 24)).heap.size = w.heap.size + 3 := by simp
  rw [hsz] at hbx1
  rw [hsz2] at hbx2
  have HH := Lib.hid h
  have HV := Lib.hid hv
  have HVE := Lib.hid hve
  have HNM := Lib.hid hnm
  have HEX := Lib.hid (⟨hex, hey, lex, ley⟩ : m.getD x 0 = (ex : Int) ∧ m.getD y 0 = (ey : Int) ∧ ex < nm ∧ ey < nm)
  have HO1 : Hid (outV s m lp (x : Nat) = true) := Lib.hid (by unfold outV; rw [hv, Int.toNat_natCast, hox]; simp; rw [h.hm.1]; exact hx)
  have HO2 : Hid (outV s m lp (y : Nat) = true) := Lib.hid (by unfold outV; rw [hv, Int.toNat_natCast, hoy]; simp; rw [h.hm.1]; exact hy)
  have CC := fun (W : World) (hW : Below w.heap.size w W) => Lib.hid (cuts_any A B ns cs nm cm lp s m W (h.keep hW))
  have hpl : (cutsM s m lp).length ≤ 1000000 := by
    have h1 := @cutE_len s m lp
    have := cutsT_len (fcN s m lp) (matesOf m) (cutE s m lp) h1 (cutE s m lp).length
    unfold cutsM; omega
  obtain ⟨ps, hps⟩ : ∃ ps, cutsM s m lp = ps := ⟨_, rfl⟩
  obtain ⟨m2, hm2⟩ : ∃ m2, exL m x y = m2 := ⟨_, rfl⟩
  have HM2 := Lib.hid hm2
  rw [hps] at hcut hpl
  simp only [hps] at CC
  rw [hm2] at HVE ⊢
  have HCUT := Lib.hid hcut
  have hxi : (0 : Int) ≤ (x : Int) := Int.natCast_nonneg _
  have hyi : (0 : Int) ≤ (y : Int) := Int.natCast_nonneg _
  have hxi1 : (x : Int) ≤ 1000 := by omega
  have hyi1 : (y : Int) ≤ 1000 := by omega
  have hnm1 : nm ≤ 256 := by omega
  have hl2 : m2.length = nm := by rw [← hm2, exL_length]; exact h.hm.1
  have HL2 := Lib.hid hl2
  clear hb1 hb2 hb3 hsz hsz2 h hv hve hnm hex hey lex ley hps hm2 hcut hM hox hoy hl2
  unfold dbox at hd hbx1 hbx2 hb hsz3
  go_enter Try.func37, Try.ntmps37
  go_upto_region 1 with fail
  generalize ((w.alloc (.cells #[.slice A ns cs, .slice B nm cm, .int .i64 lp] 24)).alloc (.cells #[.slice none 0 0, .slice none 0 0, .int .i64 0] 24)).alloc (.cells #[.slice none 0 0, .slice none 0 0, .int .i64 0] 24) = w0 at hd hbx1 hbx2 hb hsz3 ⊢
  rw [show w.heap.size + 1 + 1 = w.heap.size + 2 by omega]
  obtain ⟨gd, hgd⟩ : ∃ gd, w.heap.size = gd := ⟨_, rfl⟩
  obtain ⟨gr, hgr⟩ : ∃ gr, w.heap.size + 1 = gr := ⟨_, rfl⟩
  obtain ⟨gq, hgq⟩ : ∃ gq, w.heap.size + 2 = gq := ⟨_, rfl⟩
  have HG : Hid (gd = w.heap.size ∧ gr = gd + 1 ∧ gq = gd + 2 ∧ w0.heap.size = gd + 3) := Lib.hid ⟨hgd.symm, by omega, by omega, by omega⟩
  rw [hgr] at hbx1 ⊢
  rw [hgq] at hbx2 ⊢
  rw [hgd] at hd ⊢
  have HB := Lib.hid hb
  have HBX1 := Lib.hid hbx1
  have HBX2 := Lib.hid hbx2
  obtain ⟨d0, d1, d2, dlt⟩ := hd
  have HDC : Hid (∀ W, Below w0.heap.size w0 W → W.cell? ⟨gd, 0, none⟩ = some (.slice A ns cs) ∧ W.cell? ⟨gd, 1, none⟩ = some (.slice B nm cm) ∧ W.cell? ⟨gd, 2, none⟩ = some (.int .i64 lp)) := Lib.hid fun W hW => ⟨(hW.cell (p := ⟨gd, 0, none⟩) dlt).trans d0, (hW.cell (p := ⟨gd, 1, none⟩) dlt).trans d1, (hW.cell (p := ⟨gd, 2, none⟩) dlt).trans d2⟩
  have CV := Lib.hid ((HH.out.keep hb).valid cs cm lp true HV.out)
  have CO1 : ∀ W, Below w0.heap.size w0 W → Hid (Calls Try.prog 31 #[dval A ns cs B nm cm lp, .int .i64 (x : Nat)] W fun e w' => e = .returned (.bool true) ∧ Below W.heap.size W w') := fun W hW => Lib.hid (out_any A B ns cs nm cm lp x s m W (HH.out.keep (below_step HB.out hW)) (by omega) (by omega) true HO1.out)
  have CO2 : ∀ W, Below w0.heap.size w0 W → Hid (Calls Try.prog 31 #[dval A ns cs B nm cm lp, .int .i64 (y : Nat)] W fun e w' => e = .returned (.bool true) ∧ Below W.heap.size W w') := fun W hW => Lib.hid (out_any A B ns cs nm cm lp y s m W (HH.out.keep (below_step HB.out hW)) (by omega) (by omega) true HO2.out)
  have CL : ∀ W, Below w0.heap.size w0 W → Hid (Calls Try.prog 81 #[dval A ns cs B nm cm lp] W (ClonePost W ns nm lp s m)) := fun W hW => Lib.hid (clone_any A B ns cs nm cm lp s m W (HH.out.hs.keep (below_step HB.out hW)) (HH.out.hm.keep (below_step HB.out hW)) (by omega) (by omega))
  clear hb hbx1 hbx2 hgd hgr hgq hsz3
  go_upto_region 3 with ((go_at_call 18; ((with_reducible refine CV.out.mono ?_); rintro e w1 ⟨rfl, hb1⟩)))
  obtain ⟨x0, x1, x2⟩ := HDC.out w1 hb1
  clear d0 d1 d2
  go_upto_region 5 with (first
    | (go_at_call 31; ((with_reducible refine (CO2 _ hb2).out.mono ?_); rintro e w3 ⟨rfl, hb3'⟩; have hb3 := below_step hb2 hb3'))
    | (go_at_call 31; ((with_reducible refine (CO1 _ hb1).out.mono ?_); rintro e w2 ⟨rfl, hb2'⟩; have hb2 := below_step hb1 hb2'; obtain ⟨y0, y1, y2⟩ := HDC.out w2 hb2)))
  clear x0 x1 x2 y0 y1 y2
  obtain ⟨x0, x1, x2⟩ := HDC.out w3 hb3
  have hmn : min (x : Int) (y : Int) = ((min x y : Nat) : Int) := by omega
  have hmx : max (x : Int) (y : Int) = ((max x y : Nat) : Int) := by omega
  obtain ⟨a, ha⟩ : ∃ a, min x y = a := ⟨_, rfl⟩
  obtain ⟨b, hbb⟩ : ∃ b, max x y = b := ⟨_, rfl⟩
  rw [ha] at hmn HCUT
  rw [hbb] at hmx HCUT
  have hmn2 : (if (y : Int) < (x : Int) then (y : Int) else (x : Int)) = (a : Int) := by split <;> omega
  have hmx2 : (if (x : Int) < (y : Int) then (y : Int) else (x : Int)) = (b : Int) := by split <;> omega
  have CC3 := CC w3 (below_step HB.out hb3)
  clear ha hbb
  go_upto_region 7 with (first
    | (go_at_call 23; ((with_reducible refine CC3.out.mono ?_); rintro e w4 ⟨v, rfl, oP, hb4'⟩; have hb4 := below_step hb3 hb4'; obtain ⟨PA, Pc, rfl⟩ : ∃ PA Pc, v = .slice PA ps.length Pc := (by rcases oP.form with ⟨e, h⟩ | ⟨g, cap, e, _⟩; exact ⟨none, 0, by rw [e, h]; rfl⟩; exact ⟨_, _, e⟩); have CH := Lib.hid (phas_any PA ps.length Pc w3.heap.size ps (a, b) w4 oP rfl hpl); rw [List.contains_iff_mem.2 HCUT.out] at CH))
    | (go_at_call 32; ((with_reducible refine CH.out.mono ?_); rintro e w5 ⟨rfl, hb5'⟩; have hb5 := below_step hb4 hb5')))
  obtain ⟨z0, z1, z2⟩ := HDC.out w5 hb5
  have CL5 := CL w5 hb5
  have HB5 := Lib.hid hb5
  clear x0 x1 x2 hb1 hb2 hb3 hb4 hb3' hb5' hb4' hb2' oP CC CC3 CL CO1 CO2 CH hb5
  go_upto_region 8 with ((go_at_call 81; ((with_reducible refine CL5.out.mono ?_); rintro e w6 ⟨A1, c1, B1, e1, rfl, oS, oM, hne, hb6⟩)))
  obtain ⟨g, cg, hsl⟩ := oM.form_pos HH.out.hm.1 (by omega)
  injection hsl with q1 q2 q3
  subst q1; subst q3
  clear q2
  have hbq := below_alloc w6 (dbox A1 ns c1 (some ⟨g, 0, none⟩) nm e1 lp)
  have hbs := DB.new w6 A1 ns c1 (some ⟨g, 0, none⟩) nm e1 lp
  have oS7 := oS.keep hbq
  have oM7 := oM.keep hbq
  have hS6 := fun q e => World.ownsRow.lt oS q e
  have hg6 := World.ownsRow.lt oM g rfl
  unfold dbox at hbq hbs oS7 oM7
  generalize w6.alloc (.cells #[.slice A1 ns c1, .slice (some ⟨g, 0, none⟩) nm e1, .int .i64 lp] 24) = w7 at hbq hbs oS7 oM7 ⊢
  obtain ⟨gs, hgs⟩ : ∃ gs, w6.heap.size = gs := ⟨_, rfl⟩
  rw [hgs] at hbs ⊢
  have hb57 := below_step hb6 hbq
  have CX := Lib.hid (xch_any A1 ns c1 g nm e1 w5.heap.size lp m x y ex ey w7 oM7 HH.out.hm.1 (by omega) hx hy HEX.out.1 HEX.out.2.1 HEX.out.2.2.1 HEX.out.2.2.2)
  have HNG : Hid (gs ≠ g ∧ gr ≠ g ∧ gq ≠ g ∧ w5.heap.size ≤ g ∧ gs < w7.heap.size ∧ gs ≠ gr ∧ gs ≠ gq ∧ w0.heap.size ≤ w5.heap.size ∧ w5.heap.size ≤ gs) := Lib.hid (by
    have h1 := HG.out
    have h2 := HB5.out.size
    have h3 := hb6.size
    exact ⟨by omega, by omega, by omega, by omega, hbs.2.2.2, by omega, by omega, by omega, by omega⟩)
  have HNE := Lib.hid hne
  have HBS := Lib.hid hbs
  have HS7 := Lib.hid oS7
  have HB57 := Lib.hid hb57
  have HCAP := Lib.hid oM7.cap
  obtain ⟨t0, t1, t2, tlt⟩ := hbs
  clear oS oM oS7 oM7 hS6 hg6 hne hbq hb6 hgs hb57 z0 z1 z2 CL5
  go_upto_region 9 with ((go_at_call 80; ((with_reducible refine CX.out.mono ?_); rintro e w8 ⟨rfl, oX, hg8⟩)))
  rw [HM2.out] at oX
  have far8 : ∀ i v, w7.cell? ⟨gs, i, none⟩ = some v → w8.cell? ⟨gs, i, none⟩ = some v := fun i v h => (hg8.cell_far ⟨gs, i, none⟩ HNG.out.2.2.2.2.1 (by have := HNG.out.1; simp; omega)).trans h
  have v0 := far8 0 _ t0
  have v1 := far8 1 _ t1
  have v2 := far8 2 _ t2
  have hb8 : Below w5.heap.size w5 w8 := HB57.out.grown hg8 HB57.out.size (fun q e => by injection e with e; have := HNG.out; omega)
  have oS8 : OI w8 w5.heap.size (.slice A1 ns c1) s := HS7.out.grown hg8 HNE.out
  have hdv := dv_of oS8.ri oX.ri HVE.out
  have hbw8 : Below w.heap.size w w8 := below_step HB.out (below_step HB5.out hb8)
  have HBX18 : Hid (BxZ w8 gr ∧ BxZ w8 gq) := Lib.hid (by
    have hn := HNG.out
    exact ⟨((HBX1.out.kp HB5.out).kp HB57.out).kg hg8 (by simp; omega), ((HBX2.out.kp HB5.out).kp HB57.out).kg hg8 (by simp; omega)⟩)
  have CP : ∀ (W : World) (h : Nat), Below w8.heap.size w8 W → h < nm → Hid (Calls Try.prog 82 #[dval A1 ns c1 (some ⟨g, 0, none⟩) nm e1 lp, .int .i64 (h : Nat)] W (PtPost W (ptLen m2 ns (h / 4)) (ptS s (ptPhi m2 ns (h / 4)) (ptLen m2 ns (h / 4))) (ptM (ptPhi m2 ns (h / 4)) (ptLen m2 ns (h / 4)) (matesOf m2) (4 * ptLen m2 ns (h / 4))))) := fun W h hW hh => Lib.hid (partAt_any A1 _ ns c1 nm e1 h lp s m2 W (hdv.keep hW) HVE.out HCAP.out hh)
  have C1 : ∀ W : World, Below w8.heap.size w8 W → Hid (Calls Try.prog 82 #[dval A1 ns c1 (some ⟨g, 0, none⟩) nm e1 lp, .int .i64 (x : Nat)] W _) := fun W hW => CP W x hW hx
  have C2 : ∀ W : World, Below w8.heap.size w8 W → Hid (Calls Try.prog 82 #[dval A1 ns c1 (some ⟨g, 0, none⟩) nm e1 lp, .int .i64 (y : Nat)] W _) := fun W hW => CP W y hW hy
  obtain ⟨ka, hka⟩ : ∃ k, ptLen m2 ns (x / 4) = k := ⟨_, rfl⟩
  obtain ⟨kb, hkb⟩ : ∃ k, ptLen m2 ns (y / 4) = k := ⟨_, rfl⟩
  obtain ⟨sa, hsa⟩ : ∃ k, ptS s (ptPhi m2 ns (x / 4)) (ptLen m2 ns (x / 4)) = k := ⟨_, rfl⟩
  obtain ⟨sb, hsb⟩ : ∃ k, ptS s (ptPhi m2 ns (y / 4)) (ptLen m2 ns (y / 4)) = k := ⟨_, rfl⟩
  obtain ⟨ma, hma⟩ : ∃ k, ptM (ptPhi m2 ns (x / 4)) (ptLen m2 ns (x / 4)) (matesOf m2) (4 * ptLen m2 ns (x / 4)) = k := ⟨_, rfl⟩
  obtain ⟨mb, hmb⟩ : ∃ k, ptM (ptPhi m2 ns (y / 4)) (ptLen m2 ns (y / 4)) (matesOf m2) (4 * ptLen m2 ns (y / 4)) = k := ⟨_, rfl⟩
  have HEQ : Hid (FcPost w (ptLen m2 ns (x / 4)) (ptLen m2 ns (y / 4)) (ptS s (ptPhi m2 ns (x / 4)) (ptLen m2 ns (x / 4))) (ptM (ptPhi m2 ns (x / 4)) (ptLen m2 ns (x / 4)) (matesOf m2) (4 * ptLen m2 ns (x / 4)))
        (ptS s (ptPhi m2 ns (y / 4)) (ptLen m2 ns (y / 4))) (ptM (ptPhi m2 ns (y / 4)) (ptLen m2 ns (y / 4)) (matesOf m2) (4 * ptLen m2 ns (y / 4))) = FcPost w ka kb sa ma sb mb) := Lib.hid (by rw [hsa, hsb, hma, hmb, hka, hkb])
  simp only [hsa, hma] at C1
  simp only [hka] at C1
  simp only [hsb, hmb] at C2
  simp only [hkb] at C2
  have hgs8 : gs < w8.heap.size := Nat.lt_of_lt_of_le HNG.out.2.2.2.2.1 hg8.size
  have hbD : Below w8.heap.size w8 w8.drew := (Below.refl _ _).drew
  have C1d := C1 _ hbD
  have HBW8 := Lib.hid hbw8
  have HW8 : Hid (w.heap.size ≤ w8.heap.size ∧ gr < w8.heap.size ∧ gq < w8.heap.size) := Lib.hid ⟨hbw8.size, HBX18.out.1.1.2.2.2, HBX18.out.2.1.2.2.2⟩
  clear CP C1 hka hkb hsa hsb hma hmb t0 t1 t2 tlt far8 oX oS8 hdv hg8 hb8 hbw8 CX
  have SD0 : w8.cell? ⟨gs, 0, none⟩ = some (.slice A1 ns c1) ∧ w8.cell? ⟨gs, 1, none⟩ = some (.slice (some ⟨g, 0, none⟩) nm e1) ∧ w8.cell? ⟨gs, 2, none⟩ = some (.int .i64 lp) := ⟨v0, v1, v2⟩
  have SD1 : w8.drew.cell? ⟨gs, 0, none⟩ = some (.slice A1 ns c1) ∧ w8.drew.cell? ⟨gs, 1, none⟩ = some (.slice (some ⟨g, 0, none⟩) nm e1) ∧ w8.drew.cell? ⟨gs, 2, none⟩ = some (.int .i64 lp) := ⟨v0, v1, v2⟩
  go_region_held3 (fun w' => w'.cell? ⟨gs, 0, none⟩ = some (.slice A1 ns c1) ∧ w'.cell? ⟨gs, 1, none⟩ = some (.slice (some ⟨g, 0, none⟩) nm e1) ∧ w'.cell? ⟨gs, 2, none⟩ = some (.int .i64 lp))
    (first | (with_reducible exact SD0) | (with_reducible exact SD1) | (with_reducible exact SD2) | (with_reducible exact SD3) | (with_reducible exact SD4) | (with_reducible exact SD5) | go_keep)
    (first
      | (go_at_call 82; ((with_reducible refine C1d.out.mono ?_); rintro e w9 ⟨A3, c3, B3, d3, rfl, oS3, oM3, hb9'⟩; have hb9 := below_step hbD hb9'; have u0 := (hb9.cell (p := ⟨gs, 0, none⟩) hgs8).trans v0; have u1 := (hb9.cell (p := ⟨gs, 1, none⟩) hgs8).trans v1; have u2 := (hb9.cell (p := ⟨gs, 2, none⟩) hgs8).trans v2; have SD2 := And.intro u0 (And.intro u1 u2)))
      | (go_at_call 82; ((with_reducible refine (C2 _ hb9).out.mono ?_); rintro e w10 ⟨A4, c4, B4, d4, rfl, oS4, oM4, hb10'⟩; have hb10 := below_step hb9 hb10'; have k0 := (hb10.cell (p := ⟨gs, 0, none⟩) hgs8).trans v0; have k1 := (hb10.cell (p := ⟨gs, 1, none⟩) hgs8).trans v1; have k2 := (hb10.cell (p := ⟨gs, 2, none⟩) hgs8).trans v2; have HNR : Hid (gr ≠ gs ∧ gq ≠ gs) := Lib.hid (by have := HNG.out; omega); have SD3 := And.intro k0 (And.intro k1 k2); have SD4 := And.intro ((set3_far w10 gr (.slice A3 ka c3) (.slice B3 (4 * ka) d3) (.int .i64 0) HNR.out.1 0).trans k0) (And.intro ((set3_far w10 gr (.slice A3 ka c3) (.slice B3 (4 * ka) d3) (.int .i64 0) HNR.out.1 1).trans k1) ((set3_far w10 gr (.slice A3 ka c3) (.slice B3 (4 * ka) d3) (.int .i64 0) HNR.out.1 2).trans k2)); have SD5 := And.intro ((set3_far (set3 w10 gr (.slice A3 ka c3) (.slice B3 (4 * ka) d3) (.int .i64 0)) gq (.slice A4 kb c4) (.slice B4 (4 * kb) d4) (.int .i64 0) HNR.out.2 0).trans SD4.1) (And.intro ((set3_far (set3 w10 gr (.slice A3 ka c3) (.slice B3 (4 * ka) d3) (.int .i64 0)) gq (.slice A4 kb c4) (.slice B4 (4 * kb) d4) (.int .i64 0) HNR.out.2 1).trans SD4.2.1) ((set3_far (set3 w10 gr (.slice A3 ka c3) (.slice B3 (4 * ka) d3) (.int .i64 0)) gq (.slice A4 kb c4) (.slice B4 (4 * kb) d4) (.int .i64 0) HNR.out.2 2).trans SD4.2.2)); have hr := HBX18.out.1.kp hb10; have r0 := hr.1.1; have r1 := hr.1.2.1; have r2 := hr.1.2.2.1; have f0 := hr.2 0; have f1 := hr.2 1; have f2 := hr.2 2; have hr' := HBX18.out.2.kp hb10; have HRQ : Hid (gr ≠ gq) := Lib.hid (by have := HG.out; omega); have p0 := (set3_far w10 gr (.slice A3 ka c3) (.slice B3 (4 * ka) d3) (.int .i64 0) HRQ.out 0).trans hr'.1.1; have p1 := (set3_far w10 gr (.slice A3 ka c3) (.slice B3 (4 * ka) d3) (.int .i64 0) HRQ.out 1).trans hr'.1.2.1; have p2 := (set3_far w10 gr (.slice A3 ka c3) (.slice B3 (4 * ka) d3) (.int .i64 0) HRQ.out 2).trans hr'.1.2.2.1; have fz : ∀ i, (set3 w10 gr (.slice A3 ka c3) (.slice B3 (4 * ka) d3) (.int .i64 0)).frozen? ⟨gq, i, none⟩ = false := (fun i => (World.frozen?_setCell _ _ _ _).trans ((World.frozen?_setCell _ _ _ _).trans ((World.frozen?_setCell _ _ _ _).trans (hr'.2 i)))); have f3 := fz 0; have f4 := fz 1; have f5 := fz 2)))
  obtain ⟨y0, y1, y2⟩ := set3_cells w10 gr (.slice A3 ka c3) (.slice B3 (4 * ka) d3) (.int .i64 0) r0 r1 r2
  obtain ⟨j0, j1, j2⟩ := set3_cells (set3 w10 gr (.slice A3 ka c3) (.slice B3 (4 * ka) d3) (.int .i64 0)) gq (.slice A4 kb c4) (.slice B4 (4 * kb) d4) (.int .i64 0) p0 p1 p2
  have i0 := (set3_far (set3 w10 gr (.slice A3 ka c3) (.slice B3 (4 * ka) d3) (.int .i64 0)) gq (.slice A4 kb c4) (.slice B4 (4 * kb) d4) (.int .i64 0) (fun e => HRQ.out e.symm) 0).trans y0
  have i1 := (set3_far (set3 w10 gr (.slice A3 ka c3) (.slice B3 (4 * ka) d3) (.int .i64 0)) gq (.slice A4 kb c4) (.slice B4 (4 * kb) d4) (.int .i64 0) (fun e => HRQ.out e.symm) 1).trans y1
  have i2 := (set3_far (set3 w10 gr (.slice A3 ka c3) (.slice B3 (4 * ka) d3) (.int .i64 0)) gq (.slice A4 kb c4) (.slice B4 (4 * kb) d4) (.int .i64 0) (fun e => HRQ.out e.symm) 2).trans y2
  have HF : Hid (FcPost w ka kb sa ma sb mb (.returned (.tuple #[dval A3 ka c3 B3 (4 * ka) d3 0, dval A4 kb c4 B4 (4 * kb) d4 0, .int .i64 0])) (set3 (set3 w10 gr (.slice A3 ka c3) (.slice B3 (4 * ka) d3) (.int .i64 0)) gq (.slice A4 kb c4) (.slice B4 (4 * kb) d4) (.int .i64 0))) := Lib.hid (by
    have hw8 := HW8.out
    have hg := HG.out
    have hz9 := hb9.size
    have l3 : w8.drew.heap.size = w8.heap.size := rfl
    have key : ∀ {v : Value} {xs : List Int} {C : Nat}, OI w10 C v xs → w8.heap.size ≤ C → OI (set3 (set3 w10 gr (.slice A3 ka c3) (.slice B3 (4 * ka) d3) (.int .i64 0)) gq (.slice A4 kb c4) (.slice B4 (4 * kb) d4) (.int .i64 0)) w.heap.size v xs := fun {v xs C} h hC =>
      ((h.set3 (g := gr) (fun e => by have := (World.ownsRow.lt h _ e).1; omega) (.slice A3 ka c3) (.slice B3 (4 * ka) d3) (.int .i64 0)).set3 (g := gq) (fun e => by have := (World.ownsRow.lt h _ e).1; omega) (.slice A4 kb c4) (.slice B4 (4 * kb) d4) (.int .i64 0)).mono (by omega)
    exact ⟨A3, c3, B3, d3, A4, c4, B4, d4, rfl, key (oS3.keep hb10') (by omega), key (oM3.keep hb10') (by omega), key oS4 hz9, key oM4 hz9, set3_below (set3_below (below_step HBW8.out hb10) (by omega) _ _ _) (by omega) _ _ _⟩)
  go_wp2
  exact bodyPost_ret (v := .tuple #[dval A3 ka c3 B3 (4 * ka) d3 0, dval A4 kb c4 B4 (4 * kb) d4 0, .int .i64 0]) (by simp [results, Try.results37, go_sem, i0, i1, i2, j0, j1, j2]) rfl (by have h := HF.out; rw [← HEQ.out] at h; exact h)

end Go.Proofs.Ytkfjledhnakfoaa

/- Words for memory: slices of diagrams. -/
namespace Go.Proofs.Ytkfjledhnakfoaa
open Go.RowKit

theorem Try.infoDgm : (Try.prog.info? 24).map (fun i => (i.zero, i.size, i.bytes)) = some (some (.agg #[.slice none 0 0, .slice none 0 0, .int .i64 0]), 3, 56) := by kernel_rfl
/-- A diagram in memory. -/
structure Dg where
  A : Option Addr
  cs : Nat
  B : Option Addr
  cm : Nat
  lp : Int
  s : List Int
  m : List Int
abbrev Pl := List Int × List Int × Int
abbrev Dg.pl (d : Dg) : Pl := (d.s, d.m, d.lp)
abbrev Dg.val (d : Dg) : Value := dval d.A d.s.length d.cs d.B d.m.length d.cm d.lp
def Dg.cells (d : Dg) : List Value := [.slice d.A d.s.length d.cs, .slice d.B d.m.length d.cm, .int .i64 d.lp]
def Dg.ok (w : World) (d : Dg) : Prop := OI w 0 (.slice d.A d.s.length d.cs) d.s ∧ OI w 0 (.slice d.B d.m.length d.cm) d.m
theorem Dg.ok.keep {w w' : World} {d : Dg} (h : d.ok w) (hb : Below w.heap.size w w') : d.ok w' := ⟨h.1.keep hb, h.2.keep hb⟩
def dgs (ds : List Dg) : List Value := ds.flatMap Dg.cells
theorem dgs_length (ds : List Dg) : (dgs ds).length = ds.length * 3 := by
  induction ds with
  | nil => rfl
  | cons d ds ih => show (_ :: _ :: _ :: dgs ds).length = _; simp [ih]; omega
theorem dgs_append (ds es : List Dg) : dgs (ds ++ es) = dgs ds ++ dgs es := by simp [dgs]
theorem dgs_get (ds : List Dg) : ∀ j (hj : j < ds.length), (dgs ds)[j * 3]? = some (.slice ds[j].A ds[j].s.length ds[j].cs) ∧ (dgs ds)[j * 3 + 1]? = some (.slice ds[j].B ds[j].m.length ds[j].cm) ∧ (dgs ds)[j * 3 + 2]? = some (.int .i64 ds[j].lp) := by
  induction ds with
  | nil => intro j hj; simp at hj
  | cons d ds ih =>
    intro j hj
    have e : dgs (d :: ds) = .slice d.A d.s.length d.cs :: .slice d.B d.m.length d.cm :: .int .i64 d.lp :: dgs ds := rfl
    rw [e]
    cases j with
    | zero => exact ⟨rfl, rfl, rfl⟩
    | succ j =>
      have := ih j (by simp at hj; omega)
      rw [show (j + 1) * 3 = j * 3 + 1 + 1 + 1 by omega]
      simpa using this
theorem dgs_one (ds : List Dg) : ∀ u ∈ dgs ds, u.oneCell' = true := fun u hu => by
  unfold dgs at hu
  obtain ⟨d, _, h⟩ := List.mem_flatMap.1 hu
  simp [Dg.cells] at h
  rcases h with rfl | rfl | rfl <;> rfl
/-- v is a slice of the call's own of diagrams. -/
def ODs (w : World) (B : Nat) (v : Value) (ds : List Dg) : Prop := w.ownsRow B 24 3 v ds.length (dgs ds) ∧ ∀ d ∈ ds, d.ok w
theorem ODs.nil (w : World) (B : Nat) : ODs w B (.slice none 0 0) [] := ⟨World.ownsRow_nil w B _ _, fun d h => by cases h⟩
theorem ODs.type {w : World} {B : Nat} {v : Value} {ds : List Dg} (h : ODs w B v ds) {g : Nat} (hg : v.ownBlock = some g) : ∃ cur, w.heap[g]? = some (.cells cur 24 (0, 0)) := by
  rcases h.1.2 with ⟨rfl, _⟩ | ⟨g', cap', cur, rfl, _, h3, _⟩
  · cases hg
  · simp [Value.ownBlock] at hg; subst hg; exact ⟨cur, h3⟩
theorem Dg.ok.ne {w : World} {d : Dg} (h : d.ok w) {g : Nat} {cur : Array Value} (hg : w.heap[g]? = some (.cells cur 24 (0, 0))) : (Value.slice d.A d.s.length d.cs).ownBlock ≠ some g ∧ (Value.slice d.B d.m.length d.cm).ownBlock ≠ some g := by
  refine ⟨fun e => ?_, fun e => ?_⟩
  · obtain ⟨c1, h1⟩ := h.1.type e
    rw [hg] at h1; injection h1 with h1; injection h1 with _ h3 _; exact absurd h3 (by decide)
  · obtain ⟨c1, h1⟩ := h.2.type e
    rw [hg] at h1; injection h1 with h1; injection h1 with _ h3 _; exact absurd h3 (by decide)
/-- Other diagrams stay as they were when a slice of diagrams grows. -/
theorem Dg.ok.grown {w w' : World} {d : Dg} (h : d.ok w) {B : Nat} {v : Value} {ds : List Dg} (k : ODs w B v ds) (hg : w.grownBy w' v.ownBlock) : d.ok w' := by
  cases e : v.ownBlock with
  | none => rw [e] at hg; exact ⟨h.1.grown hg (by cases (Value.slice d.A d.s.length d.cs).ownBlock <;> simp), h.2.grown hg (by cases (Value.slice d.B d.m.length d.cm).ownBlock <;> simp)⟩
  | some g =>
    rw [e] at hg
    obtain ⟨cur, hc⟩ := k.type e
    obtain ⟨n1, n2⟩ := h.ne hc
    exact ⟨h.1.grown hg (.inr n1), h.2.grown hg (.inr n2)⟩
theorem ODs.keep {w w' : World} {B : Nat} {v : Value} {ds : List Dg} (h : ODs w B v ds) (hb : Below w.heap.size w w') : ODs w' B v ds :=
  ⟨World.ownsRow.kept h.1 (grown_of_below hb) (by cases e : v.ownBlock <;> simp), fun d hd => (h.2 d hd).keep hb⟩
theorem ODs.mono {w : World} {B B' : Nat} {v : Value} {ds : List Dg} (h : ODs w B v ds) (hB : B' ≤ B) : ODs w B' v ds := by
  refine ⟨⟨h.1.1, h.1.2.imp id ?_⟩, h.2⟩
  rintro ⟨g, cap, cur, h1, h2, h3⟩
  exact ⟨g, cap, cur, h1, by omega, h3⟩
theorem ODs.form {w : World} {B : Nat} {v : Value} {ds : List Dg} (h : ODs w B v ds) : (v = .slice none 0 0 ∧ ds = []) ∨ ∃ g cap, v = .slice (some ⟨g, 0, none⟩) ds.length cap ∧ B ≤ g ∧ g < w.heap.size := by
  rcases h.1.2 with ⟨h1, h2⟩ | ⟨g, cap, cur, h1, h2, h3, _⟩
  · exact .inl ⟨h1, List.length_eq_zero_iff.1 h2⟩
  · exact .inr ⟨g, cap, h1, h2, (Array.getElem?_eq_some_iff.1 h3).1⟩
theorem ODs.shp {w : World} {B : Nat} {v : Value} {ds : List Dg} (h : ODs w B v ds) : ∃ A c, v = .slice A ds.length c := by
  rcases h.form with ⟨e, hx⟩ | ⟨g, cap, e, _⟩
  · exact ⟨none, 0, by rw [e, hx]; rfl⟩
  · exact ⟨_, _, e⟩
theorem ODs.cell {w : World} {B g n cap : Nat} {ds : List Dg} (h : ODs w B (.slice (some ⟨g, 0, none⟩) n cap) ds) (j : Nat) (hj : j < ds.length) :
    w.cell? ⟨g, j * 3, none⟩ = some (.slice ds[j].A ds[j].s.length ds[j].cs) ∧ w.cell? ⟨g, j * 3 + 1, none⟩ = some (.slice ds[j].B ds[j].m.length ds[j].cm) ∧ w.cell? ⟨g, j * 3 + 2, none⟩ = some (.int .i64 ds[j].lp) := by
  obtain ⟨h1, h2, h3⟩ := dgs_get ds j hj
  have c1 := World.ownsRow.cells h.1 (g := g) rfl _ _ h1
  have c2 := World.ownsRow.cells h.1 (g := g) rfl _ _ h2
  have c3 := World.ownsRow.cells h.1 (g := g) rfl _ _ h3
  rw [Addr.add_lit, Nat.zero_add] at c1 c2 c3
  exact ⟨c1, c2, c3⟩
/-- append of the diagrams of a row that is no nil slice. -/
theorem wpList_append_dgs {ops : Array Oper} {rest : List Oper} {o : Oper} {a : Act} {w : World} {Q : Exit → Act → World → Prop} (hgd : o.guard = none) (s x : Operand)
    (ho : o.op = .call { callee := .builtin .append, args := #[s, x], argTypes := #[53, 53] }) (B : Nat) (v : Value) (ds : List Dg) (hs : a.eval s = v) (hown : ODs w B v ds)
    (g n c : Nat) (es : List Dg) (hx : a.eval x = .slice (some ⟨g, 0, none⟩) n c) (hn : es.length = n) (hc : ∀ j u, (dgs es)[j]? = some u → w.cell? ⟨g, j, none⟩ = some u) (hes : ∀ d ∈ es, d.ok w) (hlen : ds.length + n ≤ 1000000) (hbase : B ≤ w.heap.size)
    (h : ∀ v' w', ODs w' B v' (ds ++ es) → w.grownBy w' v.ownBlock → wpList Try.prog ops Q rest (a.put o.dst v') w') : wpList Try.prog ops Q (o :: rest) a w := by
  obtain ⟨i0, hi, hz0, hz1, hz2⟩ := info_parts Try.infoDgm
  refine wpList_append_own w hgd s x 53 ho B 24 i0 _ 3 56 Try.underlying53 hi hz0 hz1 hz2 rfl (by decide) v ds.length (dgs ds) hs hown.1 ⟨g, 0, none⟩ n c (dgs es) hx (by rw [dgs_length, hn]) ?_ (dgs_one es) (by unfold maxLen; omega) (by omega) hbase ?_
  · intro j u hj
    rw [Addr.add_lit, Nat.zero_add]
    exact hc j u hj
  · intro v' w' h1 h2 _
    refine h v' w' ⟨?_, fun d hd => ?_⟩ h2
    · rw [dgs_append, List.length_append, hn]; exact h1
    · rcases List.mem_append.1 hd with q | q
      · exact (hown.2 d q).grown hown h2
      · exact (hes d q).grown hown h2
/-- Nothing is appended to a slice of diagrams. -/
theorem run_append_none {w : World} {B : Nat} {v : Value} {ds : List Dg} (h : ODs w B v ds) (A : Option Addr) (c : Nat) (ty : TypeId) :
    (Builtin.append_ #[53, 53] ty #[v, .slice A 0 c]).run Try.prog w = .ok v w := by
  obtain ⟨i0, hi, hz0, hz1, hz2⟩ := info_parts Try.infoDgm
  have ht := run_underlying (w := w) Try.underlying53
  rcases h.1.2 with ⟨rfl, _⟩ | ⟨g, cap, cur, rfl, _, _, h6, _⟩
  · cases A <;> simp [Builtin.append_, ht, sizeOf, typeInfo, hi, Builtin.lenOf, Builtin.firstCells, loadCells, loadCellsFrom]
  · cases A <;> simp [Builtin.append_, ht, sizeOf, typeInfo, hi, Builtin.lenOf, Builtin.firstCells, loadCells, loadCellsFrom, h6, storeCells]
/-- Diagrams in a new array. -/
theorem ODs.lit (w : World) (ds : List Dg) (hd : ∀ d ∈ ds, d.ok w) (hl : ds.length ≤ 1000) (hne : ds ≠ []) (cs : Array Value) (hcs : cs.toList = dgs ds) : ODs (w.alloc (.cells cs 24)) w.heap.size (.slice (some ⟨w.heap.size, 0, none⟩) ds.length ds.length) ds := by
  refine ⟨⟨by rw [dgs_length], .inr ⟨w.heap.size, ds.length, cs, rfl, Nat.le_refl _, heap_alloc_new w _, Nat.le_refl _, by unfold maxLen; omega, ?_, ?_⟩⟩, fun d h => (hd d h).keep (below_alloc w _)⟩
  · rw [← Array.length_toList, hcs, dgs_length]
  · rw [hcs, List.take_of_length_le (by rw [dgs_length]; omega)]

/-- append of the diagrams of any slice. -/
theorem wpList_append_ods {ops : Array Oper} {rest : List Oper} {o : Oper} {a : Act} {w : World} {Q : Exit → Act → World → Prop} (hgd : o.guard = none) (s x : Operand)
    (ho : o.op = .call { callee := .builtin .append, args := #[s, x], argTypes := #[53, 53] }) (B B2 : Nat) (v vx : Value) (ds es : List Dg) (hs : a.eval s = v) (hown : ODs w B v ds) (hx : a.eval x = vx) (hes : ODs w B2 vx es) (hlen : ds.length + es.length ≤ 1000000) (hbase : B ≤ w.heap.size)
    (h : ∀ v' w', ODs w' B v' (ds ++ es) → w.grownBy w' v.ownBlock → wpList Try.prog ops Q rest (a.put o.dst v') w') : wpList Try.prog ops Q (o :: rest) a w := by
  rcases hes.form with ⟨rfl, rfl⟩ | ⟨g, cap, rfl, _, _⟩
  · refine Lib.wpList_append_run w hgd s x _ _ ho v _ hs hx v w (run_append_none hown none 0 _) (h v w ?_ (World.grownBy.refl w _))
    rw [List.append_nil]; exact hown
  · exact wpList_append_dgs hgd s x ho B v ds hs hown g es.length cap es hx rfl (fun j u hj => by
      have := World.ownsRow.cells hes.1 (g := g) rfl j u hj
      rwa [Addr.add_lit, Nat.zero_add] at this) hes.2 hlen hbase h

end Go.Proofs.Ytkfjledhnakfoaa
