import Derived.Test.YtdamfoobnbjojaaL08
import Derived.Test.YtdamfoobnbjojaaL09
import Derived.Test.YtdamfoobnbjojaaL10
/- For every diagram the law MirrorWhole returns true, and its argument reads afterwards as before. No condition. -/
namespace Go.Proofs.Ytdamfoobnbjojaa
open Go.ChangeShapes Go.WideShapes Go.ChangeAt Go.RowKit Go.Joins

theorem mzero_any (w : World) : Calls Try.prog 17 #[dval none 0 0 none 0 0 0] w fun e w' => e = .returned (.bool true) ∧ Below w.heap.size w w' := by
  obtain ⟨d0, d1, d2, dlt⟩ := DB.new w none 0 0 none 0 0 0
  have HB := Lib.hid (below_alloc w (dbox none 0 0 none 0 0 0))
  go_enter Try.func17, Try.ntmps17
  go_wp2
  go_ret
  exact ⟨rfl, HB.out⟩
/-- A diagram at a box, as it reads. -/
structure BxR (w : World) (g : Nat) (A : Option Addr) (ns cs : Nat) (B : Option Addr) (nm cm : Nat) (lp : Int) (s m : List Int) : Prop where
  box : DB w g A ns cs B nm cm lp
  s : RI w A ns s
  m : RI w B nm m
theorem BxR.keep {w w' : World} {g : Nat} {A : Option Addr} {ns cs : Nat} {B : Option Addr} {nm cm : Nat} {lp : Int} {s m : List Int} (h : BxR w g A ns cs B nm cm lp s m) (hb : Below w.heap.size w w') : BxR w' g A ns cs B nm cm lp s m := ⟨h.box.keep hb, h.s.keep hb, h.m.keep hb⟩
theorem bxR_new {w : World} {A : Option Addr} {ns cs : Nat} {B : Option Addr} {nm cm : Nat} {lp : Int} {s m : List Int} (hs : RI w A ns s) (hm : RI w B nm m) : BxR (w.alloc (.cells #[.slice A ns cs, .slice B nm cm, .int .i64 lp] 24)) w.heap.size A ns cs B nm cm lp s m :=
  ⟨DB.new w A ns cs B nm cm lp, hs.keep (below_alloc w _), hm.keep (below_alloc w _)⟩

theorem ref_equal {w9 W : World} {g B0 ns nm ci mi c4 m4 : Nat} {A1 B1 A4 B4 : Option Addr} {lp : Int} {s m s1 t1 s4 t4 : List Int} {T : Nat → Nat} {P : Nat → Bool} (hX : BxR w9 g A1 ns ci B1 nm mi lp s1 t1) (hb : Below w9.heap.size w9 W) (h1 : Moved T P ns s m s1 t1) (h2 : Moved T P ns s m s4 t4) (q : Place T ns) (hm : ∀ x, x < 4 * ns → matesOf m x < 4 * ns)
    (rS : RF B0 W A4 ns s4) (rM : RF B0 W B4 nm t4) (h14 : ns ≤ 14) (h70 : nm ≤ 70) : Calls Try.prog 18 #[dval A1 ns ci B1 nm mi lp, dval A4 ns c4 B4 nm m4 lp] W fun e w' => e = .returned (.bool true) ∧ Below W.heap.size W w' := by
  obtain ⟨e1, e2⟩ := h1.uniq h2 q hm (fun _ _ => rfl) (fun _ _ => rfl)
  have h := requal_any A1 B1 A4 B4 ns ci nm mi ns c4 nm m4 lp lp s1 t1 s4 t4 W (hX.s.keep hb) (hX.m.keep hb) rS.1 rM.1 (by omega) (by omega) (by omega) (by omega)
  rw [← e1, ← e2, eqD_refl] at h
  exact h

set_option maxHeartbeats 12800000 in
set_option maxRecDepth 100000 in
theorem mirrorwhole_walk (A B : Option Addr) (ns cs nm cm : Nat) (lp : Int) (s m : List Int) (w : World) (hs : RI w A ns s) (hm : RI w B nm m) (hns : ns ≤ 9223372036854775807) (hnm : nm ≤ 9223372036854775807) (hmI : ∀ z ∈ m, inI z) :
    Calls Try.prog 3 #[dval A ns cs B nm cm lp] w fun e w' => e = .returned (.bool true) ∧ Below w.heap.size w w' := by
  have hd := DB.new w A ns cs B nm cm lp
  have hb0 := below_alloc w (dbox A ns cs B nm cm lp)
  have HD := Lib.hid hd
  have HB := Lib.hid hb0
  obtain ⟨d0, d1, d2, dlt⟩ := hd
  have CA : ∀ W : World, Hid (Calls Try.prog 11 #[] W fun e w' => e = .returned (.bool true) ∧ Below W.heap.size W w') := fun W => Lib.hid (mawake_any W)
  have CF : ∀ W : World, Hid (Calls Try.prog 12 #[dval A ns cs B nm cm lp] W fun e w' => e = .returned (.bool (fewM ns nm)) ∧ Below W.heap.size W w') := fun W => Lib.hid (mfew_any A B ns cs nm cm lp W hns hnm)
  cases hf : fewM ns nm with
  | false =>
    rw [hf] at CF
    clear hf hs hm hmI hb0
    go_enter Try.func3, Try.ntmps3
    go_wp2_with (first
      | (go_at_call 12; ((with_reducible refine (CF _).out.mono ?_); rintro e w2 ⟨rfl, hb2⟩))
      | (go_at_call 11; ((with_reducible refine (CA w2).out.mono ?_); rintro e w3 ⟨rfl, hb3⟩))
      | (go_at_call 11; ((with_reducible refine (CA _).out.mono ?_); rintro e w1 ⟨rfl, hb1⟩; have y0 := (hb1.cell (p := ⟨w.heap.size, 0, none⟩) dlt).trans d0; have y1 := (hb1.cell (p := ⟨w.heap.size, 1, none⟩) dlt).trans d1; have y2 := (hb1.cell (p := ⟨w.heap.size, 2, none⟩) dlt).trans d2)))
    go_ret
    exact ⟨rfl, below_step HB.out (below_step hb1 (below_step hb2 hb3))⟩
  | true =>
    rw [hf] at CF
    have H := Lib.hid (DV.ofI hs hm hmI hf)
    obtain ⟨hn14, hn70⟩ := fewM_out hf
    clear hf hs hm hmI hb0 hns hnm
    have CRV : ∀ W : World, Below w.heap.size w W → Hid (Calls Try.prog 16 #[dval A ns cs B nm cm lp] W fun e w' => e = .returned (.bool (validB s m lp)) ∧ Below W.heap.size W w') := fun W hW => Lib.hid ((H.out.keep hW).rvalid cs cm lp _ rfl)
    cases hv : validB s m lp with
    | false =>
      rw [hv] at CRV
      have C1 : ∀ W : World, Below w.heap.size w W → Hid (Calls Try.prog 13 #[dval A ns cs B nm cm lp] W (OpNo W 1)) := fun W hW => Lib.hid (mirror_no A B ns cs nm cm lp s m W (H.out.keep hW) hv)
      have C2 : ∀ W : World, Below w.heap.size w W → Hid (Calls Try.prog 14 #[dval A ns cs B nm cm lp] W (OpNo W 1)) := fun W hW => Lib.hid (reflect_no A B ns cs nm cm lp s m W (H.out.keep hW) hv)
      have C3 : ∀ W : World, Below w.heap.size w W → Hid (Calls Try.prog 15 #[dval A ns cs B nm cm lp] W (OpNo W 1)) := fun W hW => Lib.hid (reverse_no A B ns cs nm cm lp s m W (H.out.keep hW) hv)
      have CZ : ∀ W : World, Hid (Calls Try.prog 17 #[dval none 0 0 none 0 0 0] W fun e w' => e = .returned (.bool true) ∧ Below W.heap.size W w') := fun W => Lib.hid (mzero_any W)
      clear hv
      go_enter Try.func3, Try.ntmps3
      go_upto_region 3 with (first
        | (go_at_call 12; ((with_reducible refine (CF _).out.mono ?_); rintro e w2 ⟨rfl, hb2⟩; have hb12 := below_step hb1 hb2; have z0 := (hb12.cell (p := ⟨w.heap.size, 0, none⟩) dlt).trans d0; have z1 := (hb12.cell (p := ⟨w.heap.size, 1, none⟩) dlt).trans d1; have z2 := (hb12.cell (p := ⟨w.heap.size, 2, none⟩) dlt).trans d2))
        | (go_at_call 11; ((with_reducible refine (CA _).out.mono ?_); rintro e w1 ⟨rfl, hb1⟩; have y0 := (hb1.cell (p := ⟨w.heap.size, 0, none⟩) dlt).trans d0; have y1 := (hb1.cell (p := ⟨w.heap.size, 1, none⟩) dlt).trans d1; have y2 := (hb1.cell (p := ⟨w.heap.size, 2, none⟩) dlt).trans d2)))
      have HB2 := Lib.hid (below_step HB.out hb12)
      obtain ⟨d0, d1, d2, dlt⟩ := HD.out.keep hb12
      have HD2 := Lib.hid (show DB w2 w.heap.size A ns cs B nm cm lp from ⟨d0, d1, d2, dlt⟩)
      have CM := C1 _ HB2.out
      clear y0 y1 y2 z0 z1 z2 CF CA C1 hb12 hb1 hb2
      go_upto_region 4 with (go_at_call 13; ((with_reducible refine CM.out.mono ?_); rintro e w3 ⟨rfl, hb3⟩))
      have hX1 := DB.new w3 none 0 0 none 0 0 0
      have hb3x := below_step hb3 (below_alloc w3 (dbox none 0 0 none 0 0 0))
      unfold dbox at hX1 hb3x
      generalize w3.alloc (.cells #[.slice none 0 0, .slice none 0 0, .int .i64 0] 24) = w4 at hX1 hb3x ⊢
      obtain ⟨g1, hg1⟩ : ∃ g, w3.heap.size = g := ⟨_, rfl⟩
      rw [hg1] at hX1 ⊢
      have HX1 := Lib.hid hX1
      have HB4 := Lib.hid (below_step HB2.out hb3x)
      have HD4 := Lib.hid (HD2.out.keep hb3x)
      clear hX1 hb3x hb3 hg1 d0 d1 d2 dlt CM
      obtain ⟨d0, d1, d2, dlt⟩ := HD4.out
      have CM := C2 _ HB4.out
      go_upto_region 5 with (go_at_call 14; ((with_reducible refine CM.out.mono ?_); rintro e w5 ⟨rfl, hb5⟩))
      have hX2 := DB.new w5 none 0 0 none 0 0 0
      have hb5x := below_step hb5 (below_alloc w5 (dbox none 0 0 none 0 0 0))
      unfold dbox at hX2 hb5x
      generalize w5.alloc (.cells #[.slice none 0 0, .slice none 0 0, .int .i64 0] 24) = w6 at hX2 hb5x ⊢
      obtain ⟨g2, hg2⟩ : ∃ g, w5.heap.size = g := ⟨_, rfl⟩
      rw [hg2] at hX2 ⊢
      have HX2 := Lib.hid hX2
      have HX1 := Lib.hid (HX1.out.keep hb5x)
      have HB6 := Lib.hid (below_step HB4.out hb5x)
      have HD6 := Lib.hid (HD4.out.keep hb5x)
      clear hX2 hb5x hb5 hg2 d0 d1 d2 dlt CM
      obtain ⟨d0, d1, d2, dlt⟩ := HD6.out
      have CM := C3 _ HB6.out
      go_upto_region 6 with (go_at_call 15; ((with_reducible refine CM.out.mono ?_); rintro e w7 ⟨rfl, hb7⟩))
      have hX3 := DB.new w7 none 0 0 none 0 0 0
      have hb7x := below_step hb7 (below_alloc w7 (dbox none 0 0 none 0 0 0))
      unfold dbox at hX3 hb7x
      generalize w7.alloc (.cells #[.slice none 0 0, .slice none 0 0, .int .i64 0] 24) = w8 at hX3 hb7x ⊢
      obtain ⟨g3, hg3⟩ : ∃ g, w7.heap.size = g := ⟨_, rfl⟩
      rw [hg3] at hX3 ⊢
      have HX3 := Lib.hid hX3
      have HX1 := Lib.hid (HX1.out.keep hb7x)
      have HX2 := Lib.hid (HX2.out.keep hb7x)
      have HB8 := Lib.hid (below_step HB6.out hb7x)
      have HD8 := Lib.hid (HD6.out.keep hb7x)
      clear hX3 hb7x hb7 hg3 d0 d1 d2 dlt CM
      obtain ⟨d0, d1, d2, dlt⟩ := HD8.out
      have HBall := HB8
      have CRW := CRV _ HBall.out
      clear CRV
      go_wp2_with (first
        | (go_at_call 16; ((with_reducible refine CRW.out.mono ?_); rintro e w9 ⟨rfl, hb9⟩; obtain ⟨p0, p1, p2, plt⟩ := HX1.out.keep hb9; obtain ⟨q0, q1, q2, qlt⟩ := HX2.out.keep hb9; obtain ⟨u0, u1, u2, ult⟩ := HX3.out.keep hb9))
        | (go_at_call 17; ((with_reducible refine (CZ w9).out.mono ?_); rintro e w10 ⟨rfl, hb10⟩; have hbA := below_step hb9 hb10; obtain ⟨p0', p1', p2', plt'⟩ := HX2.out.keep hbA))
        | (go_at_call 17; ((with_reducible refine (CZ w10).out.mono ?_); rintro e w11 ⟨rfl, hb11⟩; have hbC := below_step hbA hb11; obtain ⟨q0', q1', q2', qlt'⟩ := HX3.out.keep hbC))
        | (go_at_call 17; ((with_reducible refine (CZ w11).out.mono ?_); rintro e w12 ⟨rfl, hb12⟩)))
      go_ret
      exact ⟨rfl, below_step HBall.out (below_step hbC hb12)⟩
    | true =>
      rw [hv] at CRV
      have HV := Lib.hid hv
      have HVM := Lib.hid (valid_mates hv H.out.hs.1 H.out.hm.1)
      have C1 : ∀ W : World, Below w.heap.size w W → Hid (Calls Try.prog 13 #[dval A ns cs B nm cm lp] W (OpYes W ns nm lp s m 0 0)) := fun W hW => Lib.hid (mirror_yes A B ns cs nm cm lp s m W (H.out.keep hW) hv)
      have C2 : ∀ W : World, Below w.heap.size w W → Hid (Calls Try.prog 14 #[dval A ns cs B nm cm lp] W (OpYes W ns nm lp s m 1 0)) := fun W hW => Lib.hid (reflect_yes A B ns cs nm cm lp s m W (H.out.keep hW) hv)
      have C3 : ∀ W : World, Below w.heap.size w W → Hid (Calls Try.prog 15 #[dval A ns cs B nm cm lp] W (OpYes W ns nm lp s m 2 0)) := fun W hW => Lib.hid (reverse_yes A B ns cs nm cm lp s m W (H.out.keep hW) hv)
      clear hv
      go_enter Try.func3, Try.ntmps3
      go_upto_region 3 with (first
        | (go_at_call 12; ((with_reducible refine (CF _).out.mono ?_); rintro e w2 ⟨rfl, hb2⟩; have hb12 := below_step hb1 hb2; have z0 := (hb12.cell (p := ⟨w.heap.size, 0, none⟩) dlt).trans d0; have z1 := (hb12.cell (p := ⟨w.heap.size, 1, none⟩) dlt).trans d1; have z2 := (hb12.cell (p := ⟨w.heap.size, 2, none⟩) dlt).trans d2))
        | (go_at_call 11; ((with_reducible refine (CA _).out.mono ?_); rintro e w1 ⟨rfl, hb1⟩; have y0 := (hb1.cell (p := ⟨w.heap.size, 0, none⟩) dlt).trans d0; have y1 := (hb1.cell (p := ⟨w.heap.size, 1, none⟩) dlt).trans d1; have y2 := (hb1.cell (p := ⟨w.heap.size, 2, none⟩) dlt).trans d2)))
      have HB2 := Lib.hid (below_step HB.out hb12)
      obtain ⟨d0, d1, d2, dlt⟩ := HD.out.keep hb12
      have HD2 := Lib.hid (show DB w2 w.heap.size A ns cs B nm cm lp from ⟨d0, d1, d2, dlt⟩)
      have CM := C1 _ HB2.out
      clear y0 y1 y2 z0 z1 z2 CF CA C1 hb12 hb1 hb2
      go_upto_region 4 with (go_at_call 13; ((with_reducible refine CM.out.mono ?_); rintro e w3 ⟨A1, c1, B1, m1, s1, t1, rfl, oS1, oM1, hM1, hb3⟩))
      have hX1 := bxR_new (cs := c1) (cm := m1) (lp := lp) oS1.ri oM1.ri
      have hb3x := below_step hb3 (below_alloc w3 (.cells #[.slice A1 ns c1, .slice B1 nm m1, .int .i64 lp] 24))
      generalize w3.alloc (.cells #[.slice A1 ns c1, .slice B1 nm m1, .int .i64 lp] 24) = w4 at hX1 hb3x ⊢
      obtain ⟨g1, hg1⟩ : ∃ g, w3.heap.size = g := ⟨_, rfl⟩
      rw [hg1] at hX1 ⊢
      have HX1 := Lib.hid hX1
      have HM1 := Lib.hid hM1
      have HB4 := Lib.hid (below_step HB2.out hb3x)
      have HD4 := Lib.hid (HD2.out.keep hb3x)
      clear hX1 hb3x hb3 hg1 d0 d1 d2 dlt CM oS1 oM1 hM1
      obtain ⟨d0, d1, d2, dlt⟩ := HD4.out
      have CM := C2 _ HB4.out
      go_upto_region 5 with (go_at_call 14; ((with_reducible refine CM.out.mono ?_); rintro e w5 ⟨A2, c2, B2, m2, s2, t2, rfl, oS2, oM2, hM2, hb5⟩))
      have hX2 := bxR_new (cs := c2) (cm := m2) (lp := lp) oS2.ri oM2.ri
      have hb5x := below_step hb5 (below_alloc w5 (.cells #[.slice A2 ns c2, .slice B2 nm m2, .int .i64 lp] 24))
      generalize w5.alloc (.cells #[.slice A2 ns c2, .slice B2 nm m2, .int .i64 lp] 24) = w6 at hX2 hb5x ⊢
      obtain ⟨g2, hg2⟩ : ∃ g, w5.heap.size = g := ⟨_, rfl⟩
      rw [hg2] at hX2 ⊢
      have HX2 := Lib.hid hX2
      have HM2 := Lib.hid hM2
      have HX1 := Lib.hid (HX1.out.keep hb5x)
      have HB6 := Lib.hid (below_step HB4.out hb5x)
      have HD6 := Lib.hid (HD4.out.keep hb5x)
      clear hX2 hb5x hb5 hg2 d0 d1 d2 dlt CM oS2 oM2 hM2
      obtain ⟨d0, d1, d2, dlt⟩ := HD6.out
      have CM := C3 _ HB6.out
      go_upto_region 6 with (go_at_call 15; ((with_reducible refine CM.out.mono ?_); rintro e w7 ⟨A3, c3, B3, m3, s3, t3, rfl, oS3, oM3, hM3, hb7⟩))
      have hX3 := bxR_new (cs := c3) (cm := m3) (lp := lp) oS3.ri oM3.ri
      have hb7x := below_step hb7 (below_alloc w7 (.cells #[.slice A3 ns c3, .slice B3 nm m3, .int .i64 lp] 24))
      generalize w7.alloc (.cells #[.slice A3 ns c3, .slice B3 nm m3, .int .i64 lp] 24) = w8 at hX3 hb7x ⊢
      obtain ⟨g3, hg3⟩ : ∃ g, w7.heap.size = g := ⟨_, rfl⟩
      rw [hg3] at hX3 ⊢
      have HX3 := Lib.hid hX3
      have HM3 := Lib.hid hM3
      have HX1 := Lib.hid (HX1.out.keep hb7x)
      have HX2 := Lib.hid (HX2.out.keep hb7x)
      have HB8 := Lib.hid (below_step HB6.out hb7x)
      have HD8 := Lib.hid (HD6.out.keep hb7x)
      clear hX3 hb7x hb7 hg3 d0 d1 d2 dlt CM oS3 oM3 hM3
      obtain ⟨d0, d1, d2, dlt⟩ := HD8.out
      have HBall := HB8
      have CRW := CRV _ HBall.out
      clear CRV
      go_upto_region 8 with (go_at_call 16; ((with_reducible refine CRW.out.mono ?_); rintro e w9 ⟨rfl, hb9⟩))
      have HX1 := Lib.hid (HX1.out.keep hb9)
      have HX2 := Lib.hid (HX2.out.keep hb9)
      have HX3 := Lib.hid (HX3.out.keep hb9)
      have HD9 := Lib.hid (HD8.out.keep hb9)
      have HB9 := Lib.hid (below_step HBall.out hb9)
      have HSS : Hid (∀ w' : World, Below w9.heap.size w9 w' → w'.cell? ⟨w.heap.size, 0, none⟩ = some (.slice A ns cs) ∧ w'.cell? ⟨w.heap.size, 1, none⟩ = some (.slice B nm cm) ∧ w'.cell? ⟨w.heap.size, 2, none⟩ = some (.int .i64 lp) ∧ w'.cell? ⟨g1, 0, none⟩ = some (.slice A1 ns c1) ∧ w'.cell? ⟨g1, 1, none⟩ = some (.slice B1 nm m1) ∧ w'.cell? ⟨g1, 2, none⟩ = some (.int .i64 lp) ∧ w'.cell? ⟨g2, 0, none⟩ = some (.slice A2 ns c2) ∧ w'.cell? ⟨g2, 1, none⟩ = some (.slice B2 nm m2) ∧ w'.cell? ⟨g2, 2, none⟩ = some (.int .i64 lp) ∧ w'.cell? ⟨g3, 0, none⟩ = some (.slice A3 ns c3) ∧ w'.cell? ⟨g3, 1, none⟩ = some (.slice B3 nm m3) ∧ w'.cell? ⟨g3, 2, none⟩ = some (.int .i64 lp)) := Lib.hid fun w' hW => by
        obtain ⟨a0, a1, a2, _⟩ := HD9.out.keep hW
        obtain ⟨b0, b1, b2, _⟩ := (HX1.out.keep hW).box
        obtain ⟨e0, e1, e2, _⟩ := (HX2.out.keep hW).box
        obtain ⟨f0, f1, f2, _⟩ := (HX3.out.keep hW).box
        exact ⟨a0, a1, a2, b0, b1, b2, e0, e1, e2, f0, f1, f2⟩
      have hbD : Below w9.heap.size w9 w9.drew := (Below.refl _ _).drew
      have R1 : ∀ W : World, Below w9.heap.size w9 W → Hid (Calls Try.prog 19 #[dval A ns cs B nm cm lp] W (RsPost W ns nm lp s m (opT 0 0 s) (opP 0 0))) := fun W hW => Lib.hid (rmirror_any A B ns cs nm cm lp s m W (H.out.keep (below_step HB9.out hW)) HV.out)
      have R2 : ∀ W : World, Below w9.heap.size w9 W → Hid (Calls Try.prog 20 #[dval A ns cs B nm cm lp] W (RsPost W ns nm lp s m (opT 1 0 s) (opP 1 0))) := fun W hW => Lib.hid (rreflect_any A B ns cs nm cm lp s m W (H.out.keep (below_step HB9.out hW)) HV.out)
      have R3 : ∀ W : World, Below w9.heap.size w9 W → Hid (Calls Try.prog 21 #[dval A ns cs B nm cm lp] W (RsPost W ns nm lp s m (opT 2 0 s) (opP 2 0))) := fun W hW => Lib.hid (rreverse_any A B ns cs nm cm lp s m W (H.out.keep (below_step HB9.out hW)) HV.out)
      have SD := HSS.out _ hbD
      have HSD := Lib.hid SD
      clear d0 d1 d2 dlt hb9 SD CRW
      go_region_held3 (fun w' => w'.cell? ⟨w.heap.size, 0, none⟩ = some (.slice A ns cs) ∧ w'.cell? ⟨w.heap.size, 1, none⟩ = some (.slice B nm cm) ∧ w'.cell? ⟨w.heap.size, 2, none⟩ = some (.int .i64 lp) ∧ w'.cell? ⟨g1, 0, none⟩ = some (.slice A1 ns c1) ∧ w'.cell? ⟨g1, 1, none⟩ = some (.slice B1 nm m1) ∧ w'.cell? ⟨g1, 2, none⟩ = some (.int .i64 lp) ∧ w'.cell? ⟨g2, 0, none⟩ = some (.slice A2 ns c2) ∧ w'.cell? ⟨g2, 1, none⟩ = some (.slice B2 nm m2) ∧ w'.cell? ⟨g2, 2, none⟩ = some (.int .i64 lp) ∧ w'.cell? ⟨g3, 0, none⟩ = some (.slice A3 ns c3) ∧ w'.cell? ⟨g3, 1, none⟩ = some (.slice B3 nm m3) ∧ w'.cell? ⟨g3, 2, none⟩ = some (.int .i64 lp))
        (first | exact HSD.out | exact HS1.out | exact HS2.out | exact HS3.out | exact HS4.out | exact HS5.out | exact HS6.out | go_keep)
        (first
          | (go_at_call 19; ((with_reducible refine (R1 _ hbD).out.mono ?_); rintro e wa ⟨A4, c4, B4, m4, s4, t4, rfl, rS4, rM4, hM4, hb1'⟩; have ha1 := below_step hbD hb1'; have HS1 := Lib.hid (HSS.out _ ha1); have CE1 := Lib.hid (ref_equal (c4 := c4) (m4 := m4) HX1.out ha1 HM1.out hM4 (op_place _ _ _ _) HVM.out rS4 rM4 hn14 hn70)))
          | (go_at_call 18; ((with_reducible refine CE1.out.mono ?_); rintro e wb ⟨rfl, hb2'⟩; have ha2 := below_step ha1 hb2'; have HS2 := Lib.hid (HSS.out _ ha2)))
          | (go_at_call 20; ((with_reducible refine (R2 _ ha2).out.mono ?_); rintro e wc ⟨A5, c5, B5, m5, s5, t5, rfl, rS5, rM5, hM5, hb3'⟩; have ha3 := below_step ha2 hb3'; have HS3 := Lib.hid (HSS.out _ ha3); have CE2 := Lib.hid (ref_equal (c4 := c5) (m4 := m5) HX2.out ha3 HM2.out hM5 (op_place _ _ _ _) HVM.out rS5 rM5 hn14 hn70)))
          | (go_at_call 18; ((with_reducible refine CE2.out.mono ?_); rintro e wd ⟨rfl, hb4'⟩; have ha4 := below_step ha3 hb4'; have HS4 := Lib.hid (HSS.out _ ha4)))
          | (go_at_call 21; ((with_reducible refine (R3 _ ha4).out.mono ?_); rintro e we ⟨A6, c6, B6, m6, s6, t6, rfl, rS6, rM6, hM6, hb5'⟩; have ha5 := below_step ha4 hb5'; have HS5 := Lib.hid (HSS.out _ ha5); have CE3 := Lib.hid (ref_equal (c4 := c6) (m4 := m6) HX3.out ha5 HM3.out hM6 (op_place _ _ _ _) HVM.out rS6 rM6 hn14 hn70)))
          | (go_at_call 18; ((with_reducible refine CE3.out.mono ?_); rintro e wf ⟨rfl, hb6'⟩; have ha6 := below_step ha5 hb6'; have HS6 := Lib.hid (HSS.out _ ha6))))
      go_wp2
      go_ret
      exact ⟨rfl, below_step HB9.out ha6⟩

end Go.Proofs.Ytdamfoobnbjojaa
