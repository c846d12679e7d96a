/- Walk: ConnectSums. -/
import Derived.Test.YtkfjledhnakfoaaBCnUniLaw
import Derived.Test.YtkfjledhnakfoaaCCnSumNo
import Derived.Test.YtkfjledhnakfoaaCCnRPlace
import Derived.Test.YtkfjledhnakfoaaCCnRSum
import Derived.Test.YtkfjledhnakfoaaCCnSumVal
namespace Go.Proofs.Ytkfjledhnakfoaa
open Go.RowKit

theorem valid_lp {s m : List Int} {lp lq : Int} (h : validB s m lp = true) (h0 : 0 ≤ lq) (h1 : lq ≤ 64) : validB s m lq = true := by
  obtain ⟨v1, v2, v3, v4⟩ := validB_out h
  obtain ⟨l1, l2, _, _⟩ := limB_out v1
  have e : limB s.length m.length lq = true := by unfold limB; simp [l1, l2, h0, h1]
  unfold validB; rw [e, v2, v3, v4]; rfl
theorem comp_lp {s m : List Int} {lp lq : Int} (h : validB s m lp = true) (h' : validB s m lq = true) : compM s m lq = compM s m lp + (lq - lp) := by
  rw [compM_add h, compM_add h']
  have : strandsM s m lq = strandsM s m lp := by simp [strandsM, h, h']
  rw [this]; omega
theorem sum_case {w : World} (A1 B1 A2 B2 : Option Addr) (n1 c1 k1 d1 n2 c2 k2 d2 : Nat) (l1 l2 x y : Int) (s1 m1 s2 m2 : List Int) (h1 : DV w A1 n1 B1 k1 s1 m1) (h2 : DV w A2 n2 B2 k2 s2 m2) (hv1 : validB s1 m1 l1 = true) (hv2 : validB s2 m2 l2 = true) (hx : inI x) (hy : inI y) (hp1 : placeV s1 m1 l1 x = true) (hp2 : placeV s2 m2 l2 y = true) (hn : n1 + n2 ≤ 64) (hl : l1 + l2 ≤ 64) :
    ∃ M L, validB (s1 ++ s2) M L = true ∧ compM (s1 ++ s2) M L = compM s1 m1 l1 + compM s2 m2 l2 - 1 ∧
      (∀ W, Below w.heap.size w W → Calls Try.prog 34 #[dval A1 n1 c1 B1 k1 d1 l1, .int .i64 x, dval A2 n2 c2 B2 k2 d2 l2, .int .i64 y] W (SmPost W (n1 + n2) (k1 + k2) L (s1 ++ s2) M)) ∧
      (∀ W, Below w.heap.size w W → Calls Try.prog 36 #[dval A1 n1 c1 B1 k1 d1 l1, .int .i64 x, dval A2 n2 c2 B2 k2 d2 l2, .int .i64 y] W (RsPost W (n1 + n2) (k1 + k2) L (s1 ++ s2) M)) := by
  have hs1 := h1.hs.1
  have hs2 := h2.hs.1
  have hm1 := h1.hm.1
  have hm2 := h2.hm.1
  obtain ⟨_, _, _, lo1, _⟩ := cn_data hv1 hs1 hm1
  obtain ⟨_, _, _, lo2, _⟩ := cn_data hv2 hs2 hm2
  by_cases hxy : x = -1 ∨ y = -1
  · have hpos : 1 ≤ l1 + l2 := by
      rcases hxy with e | e
      · subst e; have := place_loop hp1; omega
      · subst e; have := place_loop hp2; omega
    have hvU := uni_valid hv1 hv2 (by omega) hl
    have hvL : validB (s1 ++ s2) (bsM m1 m2) (l1 + l2 - 1) = true := valid_lp hvU (by omega) (by omega)
    refine ⟨bsM m1 m2, l1 + l2 - 1, hvL, ?_, fun W hW => ?_, fun W hW => ?_⟩
    · rw [comp_lp hvU hvL, uni_comp hv1 hv2 (by omega) hl]; omega
    · exact sum_loop A1 B1 A2 B2 n1 c1 k1 d1 n2 c2 k2 d2 l1 l2 x y s1 m1 s2 m2 W (h1.keep hW) (h2.keep hW) hv1 hv2 hx hy hp1 hp2 hn (by omega) hxy
    · exact rsum_loop A1 B1 A2 B2 n1 c1 k1 d1 n2 c2 k2 d2 l1 l2 x y s1 m1 s2 m2 W (h1.keep hW) (h2.keep hW) hv1 hv2 (by omega)
  · obtain ⟨a, rfl, ha, oa⟩ := place_out hp1 (fun e => hxy (.inl e))
    obtain ⟨b, rfl, hb, ob⟩ := place_out hp2 (fun e => hxy (.inr e))
    obtain ⟨g1, g2⟩ := sum_both hv1 hv2 (by omega) hl ha hb oa ob
    rw [hm1] at g1 g2
    exact ⟨_, _, g1, g2, fun W hW => sum_out A1 B1 A2 B2 n1 c1 k1 d1 n2 c2 k2 d2 l1 l2 a b s1 m1 s2 m2 W (h1.keep hW) (h2.keep hW) hv1 hv2 (by omega) (by omega) hp1 hp2 hn hl,
      fun W hW => rsum_ex A1 B1 A2 B2 n1 c1 k1 d1 n2 c2 k2 d2 l1 l2 a b s1 m1 s2 m2 W (h1.keep hW) (h2.keep hW) hv1 hv2 (by omega) (by omega)⟩

set_option maxHeartbeats 6400000 in
set_option maxRecDepth 100000 in
theorem sums_walk (A1 B1 A2 B2 : Option Addr) (n1 c1 k1 d1 n2 c2 k2 d2 : Nat) (l1 l2 x y : Int) (s1 m1 s2 m2 : List Int) (w : World) (hs1 : RI w A1 n1 s1) (hm1 : RI w B1 k1 m1) (hs2 : RI w A2 n2 s2) (hm2 : RI w B2 k2 m2) (hn1 : n1 ≤ 9223372036854775807) (hk1 : k1 ≤ 9223372036854775807) (hn2 : n2 ≤ 9223372036854775807) (hk2 : k2 ≤ 9223372036854775807)
    (hI1 : ∀ z ∈ m1, inI z) (hI2 : ∀ z ∈ m2, inI z) (hl1 : inI l1) (hl2 : inI l2) (hx : inI x) (hy : inI y) :
    Calls Try.prog 7 #[dval A1 n1 c1 B1 k1 d1 l1, .int .i64 x, dval A2 n2 c2 B2 k2 d2 l2, .int .i64 y] w fun e w' => e = .returned (.bool true) ∧ Below w.heap.size w w' := by
  have hb1 := below_alloc w (dbox A1 n1 c1 B1 k1 d1 l1)
  have hb2 := below_alloc (w.alloc (dbox A1 n1 c1 B1 k1 d1 l1)) (dbox A2 n2 c2 B2 k2 d2 l2)
  have hd1 := (DB.new w A1 n1 c1 B1 k1 d1 l1).keep hb2
  have hd2 := DB.new (w.alloc (dbox A1 n1 c1 B1 k1 d1 l1)) A2 n2 c2 B2 k2 d2 l2
  have hb := below_step hb1 hb2
  rw [show (w.alloc (dbox A1 n1 c1 B1 k1 d1 l1)).heap.size = w.heap.size + 1 by simp] at hd2
  unfold dbox at hd1 hd2 hb
  have CA : ∀ W : World, Hid (Calls Try.prog 12 #[] W fun e w' => e = .returned (.bool true) ∧ Below W.heap.size W w') := fun W => Lib.hid (cnawake_any W)
  have CG1 : ∀ W : World, Hid (Calls Try.prog 13 #[dval A1 n1 c1 B1 k1 d1 l1] W fun e w' => e = .returned (.bool (cgB n1 k1 l1)) ∧ Below W.heap.size W w') := fun W => Lib.hid (cgreat_any A1 B1 n1 c1 k1 d1 l1 W hn1 hk1 hl1)
  have CG2 : ∀ W : World, Hid (Calls Try.prog 13 #[dval A2 n2 c2 B2 k2 d2 l2] W fun e w' => e = .returned (.bool (cgB n2 k2 l2)) ∧ Below W.heap.size W w') := fun W => Lib.hid (cgreat_any A2 B2 n2 c2 k2 d2 l2 W hn2 hk2 hl2)
  have HI := Lib.hid (And.intro hI1 hI2)
  have HR := Lib.hid (And.intro (And.intro hs1 hm1) (And.intro hs2 hm2))
  have HXY : Hid (inI x ∧ inI y) := Lib.hid ⟨hx, hy⟩
  clear hb1 hb2 hs1 hm1 hs2 hm2 hI1 hI2 hl1 hl2 hn1 hk1 hn2 hk2 hx hy
  go_enter Try.func7, Try.ntmps7
  go_upto_region 1 with fail
  generalize (w.alloc (.cells #[.slice A1 n1 c1, .slice B1 k1 d1, .int .i64 l1] 24)).alloc (.cells #[.slice A2 n2 c2, .slice B2 k2 d2, .int .i64 l2] 24) = w0 at hd1 hd2 hb ⊢
  obtain ⟨ga, hga⟩ : ∃ ga, w.heap.size = ga := ⟨_, rfl⟩
  obtain ⟨gb, hgb⟩ : ∃ gb, w.heap.size + 1 = gb := ⟨_, rfl⟩
  rw [hga] at hd1
  rw [hgb] at hd2 ⊢
  rw [hga]
  have HD := Lib.hid (And.intro hd1 hd2)
  have HB := Lib.hid hb
  clear hd1 hd2 hb hga hgb
  go_upto_region 3 with (go_at_call 12; ((with_reducible refine (CA _).out.mono ?_); rintro e w1 ⟨rfl, hb1⟩))
  have HB1 := Lib.hid hb1
  obtain ⟨a0, a1, a2, alt⟩ := HD.out.1.keep hb1
  obtain ⟨b0, b1, b2, blt⟩ := HD.out.2.keep hb1
  clear hb1
  cases hf1 : cgB n1 k1 l1 with
  | true =>
    rw [hf1] at CG1
    clear hf1
    go_wp2_with (go_at_call 13; ((with_reducible refine (CG1 _).out.mono ?_); rintro e w2 ⟨rfl, hb2⟩))
    go_ret
    exact ⟨rfl, below_step HB.out (below_step HB1.out hb2)⟩
  | false =>
    rw [hf1] at CG1
    cases hf2 : cgB n2 k2 l2 with
    | true =>
      rw [hf2] at CG2
      clear hf1 hf2
      go_wp2_with (first
        | (go_at_call 13; ((with_reducible refine (CG1 _).out.mono ?_); rintro e w2 ⟨rfl, hb2⟩; have y0 := (hb2.cell (p := ⟨gb, 0, none⟩) blt).trans b0; have y1 := (hb2.cell (p := ⟨gb, 1, none⟩) blt).trans b1; have y2 := (hb2.cell (p := ⟨gb, 2, none⟩) blt).trans b2))
        | (go_at_call 13; ((with_reducible refine (CG2 _).out.mono ?_); rintro e w3 ⟨rfl, hb3⟩)))
      go_ret
      exact ⟨rfl, below_step HB.out (below_step HB1.out (below_step hb2 hb3))⟩
    | false =>
      rw [hf2] at CG2
      obtain ⟨q1, q2⟩ := cgB_out hf1
      obtain ⟨q3, q4⟩ := cgB_out hf2
      have H1 := Lib.hid (DV.ofG HR.out.1.1 HR.out.1.2 HI.out.1 hf1)
      have H2 := Lib.hid (DV.ofG HR.out.2.1 HR.out.2.2 HI.out.2 hf2)
      have HF12 := Lib.hid (And.intro hf1 hf2)
      clear hf1 hf2
      go_upto_region 5 with (first
        | (go_at_call 13; ((with_reducible refine (CG1 _).out.mono ?_); rintro e w2 ⟨rfl, hb2⟩; have y0 := (hb2.cell (p := ⟨gb, 0, none⟩) blt).trans b0; have y1 := (hb2.cell (p := ⟨gb, 1, none⟩) blt).trans b1; have y2 := (hb2.cell (p := ⟨gb, 2, none⟩) blt).trans b2))
        | (go_at_call 13; ((with_reducible refine (CG2 _).out.mono ?_); rintro e w3 ⟨rfl, hb3⟩)))
      have HB3 := Lib.hid (below_step HB1.out (below_step hb2 hb3))
      clear CA CG1 CG2 a0 a1 a2 b0 b1 b2 y0 y1 y2 hb2 hb3 alt blt
      obtain ⟨a0, a1, a2, alt⟩ := HD.out.1.keep HB3.out
      obtain ⟨b0, b1, b2, blt⟩ := HD.out.2.keep HB3.out
      have CV1 : ∀ W : World, Below w.heap.size w W → Hid (Calls Try.prog 15 #[dval A1 n1 c1 B1 k1 d1 l1] W fun e w' => e = .returned (.bool (validB s1 m1 l1)) ∧ Below W.heap.size W w') := fun W hW => Lib.hid ((H1.out.keep hW).rvalid c1 d1 l1 _ rfl)
      have CV2 : ∀ W : World, Below w.heap.size w W → Hid (Calls Try.prog 15 #[dval A2 n2 c2 B2 k2 d2 l2] W fun e w' => e = .returned (.bool (validB s2 m2 l2)) ∧ Below W.heap.size W w') := fun W hW => Lib.hid ((H2.out.keep hW).rvalid c2 d2 l2 _ rfl)
      have CZ : ∀ W : World, Hid (Calls Try.prog 16 #[dval none 0 0 none 0 0 0, dval none 0 0 none 0 0 0] W fun e w' => e = .returned (.bool true) ∧ Below W.heap.size W w') := fun W => Lib.hid (zero_equal W)
      cases hv : (validB s1 m1 l1 && validB s2 m2 l2) with
      | false =>
        have CU := Lib.hid (sum_bad A1 B1 A2 B2 n1 c1 k1 d1 n2 c2 k2 d2 l1 l2 x y s1 m1 s2 m2 w3 (H1.out.keep (below_step HB.out HB3.out)) (H2.out.keep (below_step HB.out HB3.out)) hv)
        go_upto_region 6 with (go_at_call 34; ((with_reducible refine CU.out.mono ?_); rintro e w4 ⟨rfl, hb4⟩))
        have hbx := bxz_new w4
        have hb4X := below_step hb4 (below_alloc w4 (.cells #[.slice none 0 0, .slice none 0 0, .int .i64 0] 24))
        generalize w4.alloc (.cells #[.slice none 0 0, .slice none 0 0, .int .i64 0] 24) = wX at hbx hb4X ⊢
        obtain ⟨gx, hgx⟩ : ∃ gx, w4.heap.size = gx := ⟨_, rfl⟩
        rw [hgx] at hbx ⊢
        have HX := Lib.hid hbx
        have HBX := Lib.hid (below_step HB3.out hb4X)
        clear hb4X hgx hb4 a0 a1 a2 b0 b1 b2 CU hbx
        obtain ⟨a0, a1, a2, alt⟩ := HD.out.1.keep HBX.out
        obtain ⟨b0, b1, b2, blt⟩ := HD.out.2.keep HBX.out
        cases hv1 : validB s1 m1 l1 with
        | false =>
          rw [hv1] at CV1
          clear hv hv1
          go_wp2_with (first
            | (go_at_call 15; ((with_reducible refine (CV1 _ (below_step HB.out HBX.out)).out.mono ?_); rintro e w5 ⟨rfl, hb5⟩; obtain ⟨⟨x0, x1, x2, xlt⟩, _⟩ := HX.out.kp hb5))
            | (go_at_call 16; ((with_reducible refine (CZ _).out.mono ?_); rintro e w6 ⟨rfl, hb6⟩)))
          go_ret
          exact ⟨rfl, below_step HB.out (below_step HBX.out (below_step hb5 hb6))⟩
        | true =>
          have hv2 : validB s2 m2 l2 = false := by rw [hv1] at hv; simpa using hv
          rw [hv1] at CV1
          rw [hv2] at CV2
          clear hv hv1 hv2
          go_wp2_with (first
            | (go_at_call 15; ((with_reducible refine (CV1 _ (below_step HB.out HBX.out)).out.mono ?_); rintro e w5 ⟨rfl, hb5⟩; have y0 := (hb5.cell (p := ⟨gb, 0, none⟩) blt).trans b0; have y1 := (hb5.cell (p := ⟨gb, 1, none⟩) blt).trans b1; have y2 := (hb5.cell (p := ⟨gb, 2, none⟩) blt).trans b2))
            | (go_at_call 15; ((with_reducible refine (CV2 _ (below_step HB.out (below_step HBX.out hb5))).out.mono ?_); rintro e w6 ⟨rfl, hb6⟩; obtain ⟨⟨x0, x1, x2, xlt⟩, _⟩ := HX.out.kp (below_step hb5 hb6)))
            | (go_at_call 16; ((with_reducible refine (CZ _).out.mono ?_); rintro e w7 ⟨rfl, hb7⟩)))
          go_ret
          exact ⟨rfl, below_step HB.out (below_step HBX.out (below_step hb5 (below_step hb6 hb7)))⟩
      | true =>
        obtain ⟨hv1, hv2⟩ : validB s1 m1 l1 = true ∧ validB s2 m2 l2 = true := by simpa using hv
        have hL1 := cgB_loops HF12.out.1 hv1
        have hL2 := cgB_loops HF12.out.2 hv2
        have hbw3 := below_step HB.out HB3.out
        have CP1 : ∀ W : World, Below w.heap.size w W → Hid (Calls Try.prog 35 #[dval A1 n1 c1 B1 k1 d1 l1, .int .i64 x] W fun e w' => e = .returned (.bool (placeV s1 m1 l1 x)) ∧ Below W.heap.size W w') := fun W hW => Lib.hid (rplace_any A1 B1 n1 c1 k1 d1 l1 x s1 m1 W (H1.out.keep hW) hv1 HXY.out.1.1 HXY.out.1.2)
        have CP2 : ∀ W : World, Below w.heap.size w W → Hid (Calls Try.prog 35 #[dval A2 n2 c2 B2 k2 d2 l2, .int .i64 y] W fun e w' => e = .returned (.bool (placeV s2 m2 l2 y)) ∧ Below W.heap.size W w') := fun W hW => Lib.hid (rplace_any A2 B2 n2 c2 k2 d2 l2 y s2 m2 W (H2.out.keep hW) hv2 HXY.out.2.1 HXY.out.2.2)
        rw [hv1] at CV1
        rw [hv2] at CV2
        cases hp : (placeV s1 m1 l1 x && placeV s2 m2 l2 y) with
        | false =>
          have CU := Lib.hid (sum_far A1 B1 A2 B2 n1 c1 k1 d1 n2 c2 k2 d2 l1 l2 x y s1 m1 s2 m2 w3 (H1.out.keep hbw3) (H2.out.keep hbw3) hv1 hv2 HXY.out.1 HXY.out.2 hp)
          clear hv hv1 hv2 hbw3
          go_upto_region 6 with (go_at_call 34; ((with_reducible refine CU.out.mono ?_); rintro e w4 ⟨rfl, hb4⟩))
          have hbx := bxz_new w4
          have hb4X := below_step hb4 (below_alloc w4 (.cells #[.slice none 0 0, .slice none 0 0, .int .i64 0] 24))
          generalize w4.alloc (.cells #[.slice none 0 0, .slice none 0 0, .int .i64 0] 24) = wX at hbx hb4X ⊢
          obtain ⟨gx, hgx⟩ : ∃ gx, w4.heap.size = gx := ⟨_, rfl⟩
          rw [hgx] at hbx ⊢
          have HX := Lib.hid hbx
          have HBX := Lib.hid (below_step HB3.out hb4X)
          clear hb4X hgx hb4 a0 a1 a2 b0 b1 b2 CU hbx
          obtain ⟨a0, a1, a2, alt⟩ := HD.out.1.keep HBX.out
          obtain ⟨b0, b1, b2, blt⟩ := HD.out.2.keep HBX.out
          go_upto_region 8 with (first
            | (go_at_call 15; ((with_reducible refine (CV1 _ (below_step HB.out HBX.out)).out.mono ?_); rintro e w5 ⟨rfl, hb5⟩; have y0 := (hb5.cell (p := ⟨gb, 0, none⟩) blt).trans b0; have y1 := (hb5.cell (p := ⟨gb, 1, none⟩) blt).trans b1; have y2 := (hb5.cell (p := ⟨gb, 2, none⟩) blt).trans b2))
            | (go_at_call 15; ((with_reducible refine (CV2 _ (below_step HB.out (below_step HBX.out hb5))).out.mono ?_); rintro e w6 ⟨rfl, hb6⟩)))
          have HV6 := Lib.hid (below_step hb5 hb6)
          clear y0 y1 y2 a0 a1 a2 b0 b1 b2 hb5 hb6 CV1 CV2 alt blt
          obtain ⟨a0, a1, a2, alt⟩ := HD.out.1.keep (below_step HBX.out HV6.out)
          obtain ⟨b0, b1, b2, blt⟩ := HD.out.2.keep (below_step HBX.out HV6.out)
          cases hp1 : placeV s1 m1 l1 x with
          | false =>
            rw [hp1] at CP1
            clear hp hp1
            go_wp2_with (first
              | (go_at_call 35; ((with_reducible refine (CP1 _ (below_step HB.out (below_step HBX.out HV6.out))).out.mono ?_); rintro e w7 ⟨rfl, hb7⟩; obtain ⟨⟨x0, x1, x2, xlt⟩, _⟩ := HX.out.kp (below_step HV6.out hb7)))
              | (go_at_call 16; ((with_reducible refine (CZ _).out.mono ?_); rintro e w8 ⟨rfl, hb8⟩)))
            go_ret
            exact ⟨rfl, below_step HB.out (below_step HBX.out (below_step HV6.out (below_step hb7 hb8)))⟩
          | true =>
            have hp2 : placeV s2 m2 l2 y = false := by rw [hp1] at hp; simpa using hp
            rw [hp1] at CP1
            rw [hp2] at CP2
            clear hp hp1 hp2
            go_wp2_with (first
              | (go_at_call 35; ((with_reducible refine (CP1 _ (below_step HB.out (below_step HBX.out HV6.out))).out.mono ?_); rintro e w7 ⟨rfl, hb7⟩; have y0 := (hb7.cell (p := ⟨gb, 0, none⟩) blt).trans b0; have y1 := (hb7.cell (p := ⟨gb, 1, none⟩) blt).trans b1; have y2 := (hb7.cell (p := ⟨gb, 2, none⟩) blt).trans b2))
              | (go_at_call 35; ((with_reducible refine (CP2 _ (below_step HB.out (below_step HBX.out (below_step HV6.out hb7)))).out.mono ?_); rintro e w8 ⟨rfl, hb8⟩; obtain ⟨⟨x0, x1, x2, xlt⟩, _⟩ := HX.out.kp (below_step HV6.out (below_step hb7 hb8))))
              | (go_at_call 16; ((with_reducible refine (CZ _).out.mono ?_); rintro e w9 ⟨rfl, hb9⟩)))
            go_ret
            exact ⟨rfl, below_step HB.out (below_step HBX.out (below_step HV6.out (below_step hb7 (below_step hb8 hb9))))⟩
        | true =>
          obtain ⟨hp1, hp2⟩ : placeV s1 m1 l1 x = true ∧ placeV s2 m2 l2 y = true := by simpa using hp
          obtain ⟨M, L, hvU, hcU, cS, cR⟩ := sum_case (w := w) A1 B1 A2 B2 n1 c1 k1 d1 n2 c2 k2 d2 l1 l2 x y s1 m1 s2 m2 H1.out H2.out hv1 hv2 HXY.out.1 HXY.out.2 hp1 hp2 (by omega) (by omega)
          have CU := Lib.hid (cS w3 hbw3)
          have CR : ∀ W : World, Below w.heap.size w W → Hid (Calls Try.prog 36 #[dval A1 n1 c1 B1 k1 d1 l1, .int .i64 x, dval A2 n2 c2 B2 k2 d2 l2, .int .i64 y] W (RsPost W (n1 + n2) (k1 + k2) L (s1 ++ s2) M)) := fun W hW => Lib.hid (cR W hW)
          have CC1 : ∀ W : World, Below w.heap.size w W → Hid (Calls Try.prog 19 #[dval A1 n1 c1 B1 k1 d1 l1] W fun e w' => e = .returned (.int .i64 (compM s1 m1 l1)) ∧ Below W.heap.size W w') := fun W hW => Lib.hid (components_any A1 B1 n1 c1 k1 d1 l1 s1 m1 W (H1.out.keep hW))
          have CC2 : ∀ W : World, Below w.heap.size w W → Hid (Calls Try.prog 19 #[dval A2 n2 c2 B2 k2 d2 l2] W fun e w' => e = .returned (.int .i64 (compM s2 m2 l2)) ∧ Below W.heap.size W w') := fun W hW => Lib.hid (components_any A2 B2 n2 c2 k2 d2 l2 s2 m2 W (H2.out.keep hW))
          rw [hp1] at CP1
          rw [hp2] at CP2
          have hcb1 : 0 ≤ compM s1 m1 l1 ∧ compM s1 m1 l1 ≤ 1000 := by
            rw [compM_add hv1]; have := altM_small s1 m1 l1; omega
          have hcb2 : 0 ≤ compM s2 m2 l2 ∧ compM s2 m2 l2 ≤ 1000 := by
            rw [compM_add hv2]; have := altM_small s2 m2 l2; omega
          obtain ⟨C1, hC1⟩ : ∃ C1, compM s1 m1 l1 = C1 := ⟨_, rfl⟩
          obtain ⟨C2, hC2⟩ : ∃ C2, compM s2 m2 l2 = C2 := ⟨_, rfl⟩
          rw [hC1] at CC1 hcU hcb1
          rw [hC2] at CC2 hcU hcb2
          have hwC : IntKind.i64.wrap (C1 + C2) = C1 + C2 := IntWalk.i64_in _ (by omega)
          have hwD : IntKind.i64.wrap (C1 + C2 - 1) = C1 + C2 - 1 := IntWalk.i64_in _ (by omega)
          clear hv hv1 hv2 hbw3 hC1 hC2 hp hp1 hp2 cS cR
          go_upto_region 6 with (go_at_call 34; ((with_reducible refine CU.out.mono ?_); rintro e w4 ⟨A, cA, B, cB, rfl, oS, oM, hb4⟩))
          clear CU
          obtain ⟨N, hN⟩ : ∃ N, n1 + n2 = N := ⟨_, rfl⟩
          obtain ⟨K, hK⟩ : ∃ K, k1 + k2 = K := ⟨_, rfl⟩
          obtain ⟨S, hS⟩ : ∃ S, s1 ++ s2 = S := ⟨_, rfl⟩
          rw [hN, hS] at oS
          rw [hK] at oM
          rw [hS] at hvU hcU
          rw [hN, hK, hS] at CR
          rw [hN, hK]
          have hdX := DB.new w4 A N cA B K cB L
          have hfX : ∀ i, (w4.alloc (dbox A N cA B K cB L)).frozen? ⟨w4.heap.size, i, none⟩ = false := fun i => World.frozen?_alloc_at _ _ _ _ rfl
          have oSX := (oS.alloc (dbox A N cA B K cB L)).mono (Nat.zero_le _)
          have oMX := (oM.alloc (dbox A N cA B K cB L)).mono (Nat.zero_le _)
          have nS : (Value.slice A N cA).ownBlock ≠ some w4.heap.size := fun e => by have := (World.ownsRow.lt oS _ e).2; omega
          have nM : (Value.slice B K cB).ownBlock ≠ some w4.heap.size := fun e => by have := (World.ownsRow.lt oM _ e).2; omega
          have hb4X := below_step hb4 (below_alloc w4 (dbox A N cA B K cB L))
          have hgl : w0.heap.size ≤ w4.heap.size := Nat.le_trans HB3.out.size hb4.size
          unfold dbox at hdX hfX oSX oMX hb4X
          generalize w4.alloc (.cells #[.slice A N cA, .slice B K cB, .int .i64 L] 24) = wX at hdX hfX oSX oMX hb4X ⊢
          obtain ⟨gx, hgx⟩ : ∃ gx, w4.heap.size = gx := ⟨_, rfl⟩
          rw [hgx] at hdX hfX nS nM hgl ⊢
          have HGot := Lib.hid (GotI.mk hdX hfX oSX oMX nS nM hvU)
          have HGL := Lib.hid hgl
          have HBX := Lib.hid (below_step HB3.out hb4X)
          have HDV := Lib.hid (dv_of oSX.ri oMX.ri hvU)
          have CVG : ∀ W : World, Below wX.heap.size wX W → Hid (Calls Try.prog 18 #[dval A N cA B K cB L] W fun e w' => e = .returned (.bool true) ∧ Below W.heap.size W w') := fun W hW => Lib.hid ((HDV.out.keep hW).valid cA cB L true hvU)
          have CCG : ∀ W : World, Below wX.heap.size wX W → Hid (Calls Try.prog 19 #[dval A N cA B K cB L] W fun e w' => e = .returned (.int .i64 (C1 + C2 - 1)) ∧ Below W.heap.size W w') := fun W hW => Lib.hid (by
            have h := components_any A B N cA K cB L S M W (HDV.out.keep hW)
            rw [hcU] at h; exact h)
          have CE : ∀ (A' : Option Addr) (cA' : Nat) (B' : Option Addr) (cB' : Nat) (W : World), Below wX.heap.size wX W → OI W 0 (.slice A' N cA') S → OI W 0 (.slice B' K cB') M → Hid (Calls Try.prog 16 #[dval A N cA B K cB L, dval A' N cA' B' K cB' L] W fun e w' => e = .returned (.bool true) ∧ Below W.heap.size W w') := fun A' cA' B' cB' W hW r1 r2 => Lib.hid (by
            have h := requal_any A B A' B' N cA K cB N cA' K cB' L L S M S M W (HDV.out.keep hW).hs (HDV.out.keep hW).hm r1.ri r2.ri (by omega) (by omega) (by omega) (by omega)
            rw [eqD_same] at h; exact h)
          have HSS : Hid (∀ w' : World, Below wX.heap.size wX w' → w'.cell? ⟨ga, 0, none⟩ = some (.slice A1 n1 c1) ∧ w'.cell? ⟨ga, 1, none⟩ = some (.slice B1 k1 d1) ∧ w'.cell? ⟨ga, 2, none⟩ = some (.int .i64 l1) ∧ w'.cell? ⟨gb, 0, none⟩ = some (.slice A2 n2 c2) ∧ w'.cell? ⟨gb, 1, none⟩ = some (.slice B2 k2 d2) ∧ w'.cell? ⟨gb, 2, none⟩ = some (.int .i64 l2) ∧ w'.cell? ⟨gx, 0, none⟩ = some (.slice A N cA) ∧ w'.cell? ⟨gx, 1, none⟩ = some (.slice B K cB) ∧ w'.cell? ⟨gx, 2, none⟩ = some (.int .i64 L)) := Lib.hid fun w' hW => by
            obtain ⟨p0, p1, p2, _⟩ := HD.out.1.keep (below_step HBX.out hW)
            obtain ⟨r0, r1, r2, _⟩ := HD.out.2.keep (below_step HBX.out hW)
            obtain ⟨t0, t1, t2, _⟩ := HGot.out.box.keep hW
            exact ⟨p0, p1, p2, r0, r1, r2, t0, t1, t2⟩
          clear hb4X hgx hb4 a0 a1 a2 b0 b1 b2 hdX hfX oSX oMX nS nM oS oM hvU hcU hgl
          obtain ⟨a0, a1, a2, alt⟩ := HD.out.1.keep HBX.out
          obtain ⟨b0, b1, b2, blt⟩ := HD.out.2.keep HBX.out
          go_upto_region 10 with (first
            | (go_at_call 15; ((with_reducible refine (CV1 _ (below_step HB.out HBX.out)).out.mono ?_); rintro e w5 ⟨rfl, hb5⟩; have y0 := (hb5.cell (p := ⟨gb, 0, none⟩) blt).trans b0; have y1 := (hb5.cell (p := ⟨gb, 1, none⟩) blt).trans b1; have y2 := (hb5.cell (p := ⟨gb, 2, none⟩) blt).trans b2))
            | (go_at_call 15; ((with_reducible refine (CV2 _ (below_step HB.out (below_step HBX.out hb5))).out.mono ?_); rintro e w6 ⟨rfl, hb6⟩; have hbV := below_step hb5 hb6; obtain ⟨z0, z1, z2, zlt⟩ := HD.out.1.keep (below_step HBX.out hbV)))
            | (go_at_call 35; ((with_reducible refine (CP1 _ (below_step HB.out (below_step HBX.out hbV))).out.mono ?_); rintro e w7 ⟨rfl, hb7⟩; have hbW := below_step hbV hb7; obtain ⟨u0, u1, u2, ult⟩ := HD.out.2.keep (below_step HBX.out hbW)))
            | (go_at_call 35; ((with_reducible refine (CP2 _ (below_step HB.out (below_step HBX.out hbW))).out.mono ?_); rintro e w8 ⟨rfl, hb8⟩)))
          have hb56 := below_step hbW hb8
          have hbD : Below wX.heap.size wX w8.drew := hb56.drew
          have hbwX := below_step HB.out HBX.out
          have HSD := Lib.hid (HSS.out _ hbD)
          have HS0 := Lib.hid (HSS.out _ hb56)
          clear y0 y1 y2 z0 z1 z2 u0 u1 u2 a0 a1 a2 b0 b1 b2 hb5 hb6 hbV hb7 hbW hb8 CV1 CV2 CP1 CP2
          go_region_held3 (fun w' => w'.cell? ⟨ga, 0, none⟩ = some (.slice A1 n1 c1) ∧ w'.cell? ⟨ga, 1, none⟩ = some (.slice B1 k1 d1) ∧ w'.cell? ⟨ga, 2, none⟩ = some (.int .i64 l1) ∧ w'.cell? ⟨gb, 0, none⟩ = some (.slice A2 n2 c2) ∧ w'.cell? ⟨gb, 1, none⟩ = some (.slice B2 k2 d2) ∧ w'.cell? ⟨gb, 2, none⟩ = some (.int .i64 l2) ∧ w'.cell? ⟨gx, 0, none⟩ = some (.slice A N cA) ∧ w'.cell? ⟨gx, 1, none⟩ = some (.slice B K cB) ∧ w'.cell? ⟨gx, 2, none⟩ = some (.int .i64 L))
            (first | with_reducible exact HSD.out | with_reducible exact HS0.out | with_reducible exact HS1.out | with_reducible exact HS2.out | with_reducible exact HS3.out | with_reducible exact HS4.out | with_reducible exact HS5.out | with_reducible exact HS6.out | go_keep)
            (first
              | (go_at_call 36; ((with_reducible refine (CR _ (below_step hbwX hbD)).out.mono ?_); rintro e wa ⟨A', cA', B', cB', rfl, oS', oM', h1'⟩; have ha1 := below_step hbD h1'; have HS1 := Lib.hid (HSS.out _ ha1); have CEq := CE A' cA' B' cB' _ ha1 (oS'.mono (Nat.zero_le _)) (oM'.mono (Nat.zero_le _)); clear oS' oM'))
              | (go_at_call 16; ((with_reducible refine CEq.out.mono ?_); rintro e wb ⟨rfl, h2'⟩; have ha2 := below_step ha1 h2'; have HS2 := Lib.hid (HSS.out _ ha2)))
              | (go_at_call 18; ((with_reducible refine (CVG _ ha2).out.mono ?_); rintro e wc ⟨rfl, h3'⟩; have ha3 := below_step ha2 h3'; have HS3 := Lib.hid (HSS.out _ ha3)))
              | (go_at_call 19; ((with_reducible refine (CCG _ ha3).out.mono ?_); rintro e wd ⟨rfl, h4'⟩; have ha4 := below_step ha3 h4'; have HS4 := Lib.hid (HSS.out _ ha4)))
              | (go_at_call 19; ((with_reducible refine (CC1 _ (below_step hbwX ha4)).out.mono ?_); rintro e we ⟨rfl, h5'⟩; have ha5 := below_step ha4 h5'; have HS5 := Lib.hid (HSS.out _ ha5)))
              | (go_at_call 19; ((with_reducible refine (CC2 _ (below_step hbwX ha5)).out.mono ?_); rintro e wf ⟨rfl, h6'⟩; have ha6 := below_step ha5 h6'; have HS6 := Lib.hid (HSS.out _ ha6))))
          have HA6 := Lib.hid (below_step HBX.out ha6)
          clear CR CC1 CC2 CVG CCG CE CEq HSS HSD HS0 HS1 HS2 HS3 HS4 HS5 HS6 h1' h2' h3' h4' h5' h6' ha1 ha2 ha3 ha4 ha5 ha6 hbD hbwX hb56 HGot HDV
          go_wp2
          go_ret
          exact ⟨by first | rfl | (simp; done) | simp, below_step HB.out HA6.out⟩

end Go.Proofs.Ytkfjledhnakfoaa
