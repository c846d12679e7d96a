/- Walk: ConnectUnions. -/
import Derived.Test.YtkfjledhnakfoaaA23
import Derived.Test.YtkfjledhnakfoaaBCnUniRef
import Derived.Test.YtkfjledhnakfoaaBCnUniVal
import Derived.Test.YtkfjledhnakfoaaA16
import Derived.Test.YtkfjledhnakfoaaA20
import Derived.Test.YtkfjledhnakfoaaBComp
import Derived.Test.YtkfjledhnakfoaaBREq
import Derived.Test.YtkfjledhnakfoaaA11
namespace Go.Proofs.Ytkfjledhnakfoaa
open Go.RowKit

theorem cgB_loops {ns nm : Nat} {lp : Int} {s m : List Int} (h : cgB ns nm lp = false) (hv : validB s m lp = true) : 0 ≤ lp ∧ lp ≤ 10 := by
  obtain ⟨v1, _⟩ := validB_out hv
  obtain ⟨_, _, l3, l4⟩ := limB_out v1
  unfold cgB at h; simp at h; omega
theorem eqD_same (s m : List Int) (lp : Int) : eqD s m lp s m lp = true := by unfold eqD; simp
theorem zero_equal (W : World) : Calls Try.prog 16 #[dval none 0 0 none 0 0 0, dval none 0 0 none 0 0 0] W fun e w' => e = .returned (.bool true) ∧ Below W.heap.size W w' := by
  have h := requal_any none none none none 0 0 0 0 0 0 0 0 0 0 [] [] [] [] W (RI.nil _ _) (RI.nil _ _) (RI.nil _ _) (RI.nil _ _) (by omega) (by omega) (by omega) (by omega)
  rw [eqD_same] at h; exact h

/-- The box of the diagram that the law has got so far. -/
structure GotI (w : World) (gx : Nat) (A : Option Addr) (N cA : Nat) (B : Option Addr) (K cB : Nat) (L : Int) (S M : List Int) : Prop where
  box : DB w gx A N cA B K cB L
  fz : ∀ i, w.frozen? ⟨gx, i, none⟩ = false
  s : OI w 0 (.slice A N cA) S
  m : OI w 0 (.slice B K cB) M
  ns : (Value.slice A N cA).ownBlock ≠ some gx
  nm : (Value.slice B K cB).ownBlock ≠ some gx
  v : validB S M L = true
theorem GotI.keep {w w' : World} {gx : Nat} {A : Option Addr} {N cA : Nat} {B : Option Addr} {K cB : Nat} {L : Int} {S M : List Int} (h : GotI w gx A N cA B K cB L S M) (hb : Below w.heap.size w w') : GotI w' gx A N cA B K cB L S M :=
  ⟨h.box.keep hb, fun i => (hb.frozen (p := ⟨gx, i, none⟩) h.box.2.2.2).trans (h.fz i), h.s.keep hb, h.m.keep hb, h.ns, h.nm, h.v⟩

set_option maxHeartbeats 6400000 in
set_option maxRecDepth 100000 in
theorem unions_walk (A1 B1 A2 B2 : Option Addr) (n1 c1 k1 d1 n2 c2 k2 d2 : Nat) (l1 l2 : Int) (s1 m1 s2 m2 : List Int) (t : Nat) (w : World) (hs1 : RI w A1 n1 s1) (hm1 : RI w B1 k1 m1) (hs2 : RI w A2 n2 s2) (hm2 : RI w B2 k2 m2) (hn1 : n1 ≤ 9223372036854775807) (hk1 : k1 ≤ 9223372036854775807) (hn2 : n2 ≤ 9223372036854775807) (hk2 : k2 ≤ 9223372036854775807)
    (hI1 : ∀ z ∈ m1, inI z) (hI2 : ∀ z ∈ m2, inI z) (hl1 : inI l1) (hl2 : inI l2) (ht : t ≤ 255) :
    Calls Try.prog 3 #[dval A1 n1 c1 B1 k1 d1 l1, dval A2 n2 c2 B2 k2 d2 l2, .int .u8 (t : Nat)] w fun e w' => e = .returned (.bool true) ∧ Below w.heap.size w w' := by
  have hb1 := below_alloc w (dbox A1 n1 c1 B1 k1 d1 l1)
  have hb2 := below_alloc (w.alloc (dbox A1 n1 c1 B1 k1 d1 l1)) (dbox A2 n2 c2 B2 k2 d2 l2)
  have hd1 := (DB.new w A1 n1 c1 B1 k1 d1 l1).keep hb2
  have hd2 := DB.new (w.alloc (dbox A1 n1 c1 B1 k1 d1 l1)) A2 n2 c2 B2 k2 d2 l2
  have hb := below_step hb1 hb2
  rw [show (w.alloc (dbox A1 n1 c1 B1 k1 d1 l1)).heap.size = w.heap.size + 1 by simp] at hd2
  unfold dbox at hd1 hd2 hb
  have CA : ∀ W : World, Hid (Calls Try.prog 12 #[] W fun e w' => e = .returned (.bool true) ∧ Below W.heap.size W w') := fun W => Lib.hid (cnawake_any W)
  have CG1 : ∀ W : World, Hid (Calls Try.prog 13 #[dval A1 n1 c1 B1 k1 d1 l1] W fun e w' => e = .returned (.bool (cgB n1 k1 l1)) ∧ Below W.heap.size W w') := fun W => Lib.hid (cgreat_any A1 B1 n1 c1 k1 d1 l1 W hn1 hk1 hl1)
  have CG2 : ∀ W : World, Hid (Calls Try.prog 13 #[dval A2 n2 c2 B2 k2 d2 l2] W fun e w' => e = .returned (.bool (cgB n2 k2 l2)) ∧ Below W.heap.size W w') := fun W => Lib.hid (cgreat_any A2 B2 n2 c2 k2 d2 l2 W hn2 hk2 hl2)
  have HI := Lib.hid (And.intro hI1 hI2)
  have HR := Lib.hid (And.intro (And.intro hs1 hm1) (And.intro hs2 hm2))
  clear hb1 hb2 hs1 hm1 hs2 hm2 hI1 hI2 hl1 hl2 hn1 hk1 hn2 hk2
  go_enter Try.func3, Try.ntmps3
  go_upto_region 1 with fail
  generalize (w.alloc (.cells #[.slice A1 n1 c1, .slice B1 k1 d1, .int .i64 l1] 24)).alloc (.cells #[.slice A2 n2 c2, .slice B2 k2 d2, .int .i64 l2] 24) = w0 at hd1 hd2 hb ⊢
  obtain ⟨ga, hga⟩ : ∃ ga, w.heap.size = ga := ⟨_, rfl⟩
  obtain ⟨gb, hgb⟩ : ∃ gb, w.heap.size + 1 = gb := ⟨_, rfl⟩
  rw [hga] at hd1
  rw [hgb] at hd2 ⊢
  rw [hga]
  have HD := Lib.hid (And.intro hd1 hd2)
  have HB := Lib.hid hb
  clear hd1 hd2 hb hga hgb
  go_upto_region 3 with (go_at_call 12; ((with_reducible refine (CA _).out.mono ?_); rintro e w1 ⟨rfl, hb1⟩))
  have HB1 := Lib.hid hb1
  obtain ⟨a0, a1, a2, alt⟩ := HD.out.1.keep hb1
  obtain ⟨b0, b1, b2, blt⟩ := HD.out.2.keep hb1
  clear hb1
  cases hf1 : cgB n1 k1 l1 with
  | true =>
    rw [hf1] at CG1
    clear hf1
    go_wp2_with (go_at_call 13; ((with_reducible refine (CG1 _).out.mono ?_); rintro e w2 ⟨rfl, hb2⟩))
    go_ret
    exact ⟨rfl, below_step HB.out (below_step HB1.out hb2)⟩
  | false =>
    rw [hf1] at CG1
    cases hf2 : cgB n2 k2 l2 with
    | true =>
      rw [hf2] at CG2
      clear hf1 hf2
      go_wp2_with (first
        | (go_at_call 13; ((with_reducible refine (CG1 _).out.mono ?_); rintro e w2 ⟨rfl, hb2⟩; have y0 := (hb2.cell (p := ⟨gb, 0, none⟩) blt).trans b0; have y1 := (hb2.cell (p := ⟨gb, 1, none⟩) blt).trans b1; have y2 := (hb2.cell (p := ⟨gb, 2, none⟩) blt).trans b2))
        | (go_at_call 13; ((with_reducible refine (CG2 _).out.mono ?_); rintro e w3 ⟨rfl, hb3⟩)))
      go_ret
      exact ⟨rfl, below_step HB.out (below_step HB1.out (below_step hb2 hb3))⟩
    | false =>
      rw [hf2] at CG2
      obtain ⟨q1, q2⟩ := cgB_out hf1
      obtain ⟨q3, q4⟩ := cgB_out hf2
      have H1 := Lib.hid (DV.ofG HR.out.1.1 HR.out.1.2 HI.out.1 hf1)
      have H2 := Lib.hid (DV.ofG HR.out.2.1 HR.out.2.2 HI.out.2 hf2)
      have HF12 := Lib.hid (And.intro hf1 hf2)
      clear hf1 hf2
      go_upto_region 5 with (first
        | (go_at_call 13; ((with_reducible refine (CG1 _).out.mono ?_); rintro e w2 ⟨rfl, hb2⟩; have y0 := (hb2.cell (p := ⟨gb, 0, none⟩) blt).trans b0; have y1 := (hb2.cell (p := ⟨gb, 1, none⟩) blt).trans b1; have y2 := (hb2.cell (p := ⟨gb, 2, none⟩) blt).trans b2))
        | (go_at_call 13; ((with_reducible refine (CG2 _).out.mono ?_); rintro e w3 ⟨rfl, hb3⟩)))
      have HB3 := Lib.hid (below_step HB1.out (below_step hb2 hb3))
      clear CA CG1 CG2 a0 a1 a2 b0 b1 b2 y0 y1 y2 hb2 hb3 alt blt
      obtain ⟨a0, a1, a2, alt⟩ := HD.out.1.keep HB3.out
      obtain ⟨b0, b1, b2, blt⟩ := HD.out.2.keep HB3.out
      have CV1 : ∀ W : World, Below w.heap.size w W → Hid (Calls Try.prog 15 #[dval A1 n1 c1 B1 k1 d1 l1] W fun e w' => e = .returned (.bool (validB s1 m1 l1)) ∧ Below W.heap.size W w') := fun W hW => Lib.hid ((H1.out.keep hW).rvalid c1 d1 l1 _ rfl)
      have CV2 : ∀ W : World, Below w.heap.size w W → Hid (Calls Try.prog 15 #[dval A2 n2 c2 B2 k2 d2 l2] W fun e w' => e = .returned (.bool (validB s2 m2 l2)) ∧ Below W.heap.size W w') := fun W hW => Lib.hid ((H2.out.keep hW).rvalid c2 d2 l2 _ rfl)
      have CZ : ∀ W : World, Hid (Calls Try.prog 16 #[dval none 0 0 none 0 0 0, dval none 0 0 none 0 0 0] W fun e w' => e = .returned (.bool true) ∧ Below W.heap.size W w') := fun W => Lib.hid (zero_equal W)
      cases hv : (validB s1 m1 l1 && validB s2 m2 l2) with
      | false =>
        have CU := Lib.hid (union_no A1 B1 A2 B2 n1 c1 k1 d1 n2 c2 k2 d2 l1 l2 s1 m1 s2 m2 w3 (H1.out.keep (below_step HB.out HB3.out)) (H2.out.keep (below_step HB.out HB3.out)) hv)
        go_upto_region 6 with (go_at_call 14; ((with_reducible refine CU.out.mono ?_); rintro e w4 ⟨rfl, hb4⟩))
        have hbx := bxz_new w4
        have hb4X := below_step hb4 (below_alloc w4 (.cells #[.slice none 0 0, .slice none 0 0, .int .i64 0] 24))
        generalize w4.alloc (.cells #[.slice none 0 0, .slice none 0 0, .int .i64 0] 24) = wX at hbx hb4X ⊢
        obtain ⟨gx, hgx⟩ : ∃ gx, w4.heap.size = gx := ⟨_, rfl⟩
        rw [hgx] at hbx ⊢
        have HX := Lib.hid hbx
        have HBX := Lib.hid (below_step HB3.out hb4X)
        clear hb4X hgx hb4 a0 a1 a2 b0 b1 b2 CU hbx
        obtain ⟨a0, a1, a2, alt⟩ := HD.out.1.keep HBX.out
        obtain ⟨b0, b1, b2, blt⟩ := HD.out.2.keep HBX.out
        cases hv1 : validB s1 m1 l1 with
        | false =>
          rw [hv1] at CV1
          clear hv hv1
          go_wp2_with (first
            | (go_at_call 15; ((with_reducible refine (CV1 _ (below_step HB.out HBX.out)).out.mono ?_); rintro e w5 ⟨rfl, hb5⟩; obtain ⟨⟨x0, x1, x2, xlt⟩, _⟩ := HX.out.kp hb5))
            | (go_at_call 16; ((with_reducible refine (CZ _).out.mono ?_); rintro e w6 ⟨rfl, hb6⟩)))
          go_ret
          exact ⟨rfl, below_step HB.out (below_step HBX.out (below_step hb5 hb6))⟩
        | true =>
          have hv2 : validB s2 m2 l2 = false := by rw [hv1] at hv; simpa using hv
          rw [hv1] at CV1
          rw [hv2] at CV2
          clear hv hv1 hv2
          go_wp2_with (first
            | (go_at_call 15; ((with_reducible refine (CV1 _ (below_step HB.out HBX.out)).out.mono ?_); rintro e w5 ⟨rfl, hb5⟩; have y0 := (hb5.cell (p := ⟨gb, 0, none⟩) blt).trans b0; have y1 := (hb5.cell (p := ⟨gb, 1, none⟩) blt).trans b1; have y2 := (hb5.cell (p := ⟨gb, 2, none⟩) blt).trans b2))
            | (go_at_call 15; ((with_reducible refine (CV2 _ (below_step HB.out (below_step HBX.out hb5))).out.mono ?_); rintro e w6 ⟨rfl, hb6⟩; obtain ⟨⟨x0, x1, x2, xlt⟩, _⟩ := HX.out.kp (below_step hb5 hb6)))
            | (go_at_call 16; ((with_reducible refine (CZ _).out.mono ?_); rintro e w7 ⟨rfl, hb7⟩)))
          go_ret
          exact ⟨rfl, below_step HB.out (below_step HBX.out (below_step hb5 (below_step hb6 hb7)))⟩
      | true =>
        obtain ⟨hv1, hv2⟩ : validB s1 m1 l1 = true ∧ validB s2 m2 l2 = true := by simpa using hv
        have hL1 := cgB_loops HF12.out.1 hv1
        have hL2 := cgB_loops HF12.out.2 hv2
        have hbw3 := below_step HB.out HB3.out
        have hlen1 := H1.out.hs.1
        have hlen2 := H2.out.hs.1
        have CU : Hid (Calls Try.prog 14 #[dval A1 n1 c1 B1 k1 d1 l1, dval A2 n2 c2 B2 k2 d2 l2] w3 fun e w' => ∃ A cs B cm, e = .returned (.tuple #[dval A (n1 + n2) cs B (k1 + k2) cm (l1 + l2), .int .i64 0]) ∧ OI w' w3.heap.size (.slice A (n1 + n2) cs) (s1 ++ s2) ∧ OI w' w3.heap.size (.slice B (k1 + k2) cm) (bsM m1 m2) ∧ Below w3.heap.size w3 w') := Lib.hid (by
          have h := union_yes A1 B1 A2 B2 n1 c1 k1 d1 n2 c2 k2 d2 l1 l2 s1 m1 s2 m2 w3 (H1.out.keep hbw3) (H2.out.keep hbw3) hv1 hv2
          exact h.mono fun e w' hh => by unfold UnPost at hh; rw [if_pos (by omega)] at hh; exact hh)
        have CR : ∀ W : World, Below w.heap.size w W → Hid (Calls Try.prog 17 #[dval A1 n1 c1 B1 k1 d1 l1, dval A2 n2 c2 B2 k2 d2 l2] W (BsPost W (n1 + n2) (k1 + k2) (l1 + l2) (s1 ++ s2) (bsM m1 m2))) := fun W hW => Lib.hid (runion_any A1 B1 A2 B2 n1 c1 k1 d1 n2 c2 k2 d2 l1 l2 s1 m1 s2 m2 W (H1.out.keep hW) (H2.out.keep hW) hv1 hv2)
        have CC1 : ∀ W : World, Below w.heap.size w W → Hid (Calls Try.prog 19 #[dval A1 n1 c1 B1 k1 d1 l1] W fun e w' => e = .returned (.int .i64 (compM s1 m1 l1)) ∧ Below W.heap.size W w') := fun W hW => Lib.hid (components_any A1 B1 n1 c1 k1 d1 l1 s1 m1 W (H1.out.keep hW))
        have CC2 : ∀ W : World, Below w.heap.size w W → Hid (Calls Try.prog 19 #[dval A2 n2 c2 B2 k2 d2 l2] W fun e w' => e = .returned (.int .i64 (compM s2 m2 l2)) ∧ Below W.heap.size W w') := fun W hW => Lib.hid (components_any A2 B2 n2 c2 k2 d2 l2 s2 m2 W (H2.out.keep hW))
        have hvU := uni_valid hv1 hv2 (by omega) (by omega)
        have hcU := uni_comp hv1 hv2 (by omega) (by omega)
        rw [hv1] at CV1
        rw [hv2] at CV2
        have HV2 := Lib.hid hv2
        obtain ⟨e1, e2⟩ := (cn_data hv1 H1.out.hs.1 H1.out.hm.1).2.2.2
        have hcb1 : 0 ≤ compM s1 m1 l1 ∧ compM s1 m1 l1 ≤ 1000 := by
          rw [compM_add hv1]; have := altM_small s1 m1 l1; omega
        have hcb2 : 0 ≤ compM s2 m2 l2 ∧ compM s2 m2 l2 ≤ 1000 := by
          rw [compM_add hv2]; have := altM_small s2 m2 l2; omega
        obtain ⟨C1, hC1⟩ : ∃ C1, compM s1 m1 l1 = C1 := ⟨_, rfl⟩
        obtain ⟨C2, hC2⟩ : ∃ C2, compM s2 m2 l2 = C2 := ⟨_, rfl⟩
        rw [hC1] at CC1 hcU hcb1
        rw [hC2] at CC2 hcU hcb2
        have hwC : IntKind.i64.wrap (C1 + C2) = C1 + C2 := IntWalk.i64_in _ (by omega)
        clear hv hv1 hv2 hbw3 e1 e2 hC1 hC2 hlen1 hlen2
        go_upto_region 6 with (go_at_call 14; ((with_reducible refine CU.out.mono ?_); rintro e w4 ⟨A, cA, B, cB, rfl, oS, oM, hb4⟩))
        clear CU
        obtain ⟨N, hN⟩ : ∃ N, n1 + n2 = N := ⟨_, rfl⟩
        obtain ⟨K, hK⟩ : ∃ K, k1 + k2 = K := ⟨_, rfl⟩
        obtain ⟨L, hL⟩ : ∃ L, l1 + l2 = L := ⟨_, rfl⟩
        obtain ⟨S, hS⟩ : ∃ S, s1 ++ s2 = S := ⟨_, rfl⟩
        obtain ⟨M, hM⟩ : ∃ M, bsM m1 m2 = M := ⟨_, rfl⟩
        rw [hN, hS] at oS
        rw [hK, hM] at oM
        rw [hS, hM, hL] at hvU hcU
        rw [hN, hK, hL, hS, hM] at CR
        rw [hN, hK, hL]
        have hdX := DB.new w4 A N cA B K cB L
        have hfX : ∀ i, (w4.alloc (dbox A N cA B K cB L)).frozen? ⟨w4.heap.size, i, none⟩ = false := fun i => World.frozen?_alloc_at _ _ _ _ rfl
        have oSX := (oS.alloc (dbox A N cA B K cB L)).mono (Nat.zero_le _)
        have oMX := (oM.alloc (dbox A N cA B K cB L)).mono (Nat.zero_le _)
        have nS : (Value.slice A N cA).ownBlock ≠ some w4.heap.size := fun e => by have := (World.ownsRow.lt oS _ e).2; omega
        have nM : (Value.slice B K cB).ownBlock ≠ some w4.heap.size := fun e => by have := (World.ownsRow.lt oM _ e).2; omega
        have hb4X := below_step hb4 (below_alloc w4 (dbox A N cA B K cB L))
        have hgl : w0.heap.size ≤ w4.heap.size := Nat.le_trans HB3.out.size hb4.size
        unfold dbox at hdX hfX oSX oMX hb4X
        generalize w4.alloc (.cells #[.slice A N cA, .slice B K cB, .int .i64 L] 24) = wX at hdX hfX oSX oMX hb4X ⊢
        obtain ⟨gx, hgx⟩ : ∃ gx, w4.heap.size = gx := ⟨_, rfl⟩
        rw [hgx] at hdX hfX nS nM hgl ⊢
        have HGot := Lib.hid (GotI.mk hdX hfX oSX oMX nS nM hvU)
        have HGL := Lib.hid hgl
        have HBX := Lib.hid (below_step HB3.out hb4X)
        have HDV := Lib.hid (dv_of oSX.ri oMX.ri hvU)
        have CVG : ∀ W : World, Below wX.heap.size wX W → Hid (Calls Try.prog 18 #[dval A N cA B K cB L] W fun e w' => e = .returned (.bool true) ∧ Below W.heap.size W w') := fun W hW => Lib.hid ((HDV.out.keep hW).valid cA cB L true hvU)
        have CCG : ∀ W : World, Below wX.heap.size wX W → Hid (Calls Try.prog 19 #[dval A N cA B K cB L] W fun e w' => e = .returned (.int .i64 (C1 + C2)) ∧ Below W.heap.size W w') := fun W hW => Lib.hid (by
          have h := components_any A B N cA K cB L S M W (HDV.out.keep hW)
          rw [hcU] at h; exact h)
        have CE : ∀ (A' : Option Addr) (cA' : Nat) (B' : Option Addr) (cB' : Nat) (W : World), Below wX.heap.size wX W → OI W 0 (.slice A' N cA') S → OI W 0 (.slice B' K cB') M → Hid (Calls Try.prog 16 #[dval A N cA B K cB L, dval A' N cA' B' K cB' L] W fun e w' => e = .returned (.bool true) ∧ Below W.heap.size W w') := fun A' cA' B' cB' W hW r1 r2 => Lib.hid (by
          have h := requal_any A B A' B' N cA K cB N cA' K cB' L L S M S M W (HDV.out.keep hW).hs (HDV.out.keep hW).hm r1.ri r2.ri (by omega) (by omega) (by omega) (by omega)
          rw [eqD_same] at h; exact h)
        have HSS : Hid (∀ w' : World, Below wX.heap.size wX w' → w'.cell? ⟨ga, 0, none⟩ = some (.slice A1 n1 c1) ∧ w'.cell? ⟨ga, 1, none⟩ = some (.slice B1 k1 d1) ∧ w'.cell? ⟨ga, 2, none⟩ = some (.int .i64 l1) ∧ w'.cell? ⟨gb, 0, none⟩ = some (.slice A2 n2 c2) ∧ w'.cell? ⟨gb, 1, none⟩ = some (.slice B2 k2 d2) ∧ w'.cell? ⟨gb, 2, none⟩ = some (.int .i64 l2) ∧ w'.cell? ⟨gx, 0, none⟩ = some (.slice A N cA) ∧ w'.cell? ⟨gx, 1, none⟩ = some (.slice B K cB) ∧ w'.cell? ⟨gx, 2, none⟩ = some (.int .i64 L)) := Lib.hid fun w' hW => by
          obtain ⟨p0, p1, p2, _⟩ := HD.out.1.keep (below_step HBX.out hW)
          obtain ⟨r0, r1, r2, _⟩ := HD.out.2.keep (below_step HBX.out hW)
          obtain ⟨t0, t1, t2, _⟩ := HGot.out.box.keep hW
          exact ⟨p0, p1, p2, r0, r1, r2, t0, t1, t2⟩
        clear hb4X hgx hb4 a0 a1 a2 b0 b1 b2 hdX hfX oSX oMX nS nM oS oM hvU hcU hgl
        obtain ⟨a0, a1, a2, alt⟩ := HD.out.1.keep HBX.out
        obtain ⟨b0, b1, b2, blt⟩ := HD.out.2.keep HBX.out
        go_upto_region 8 with (first
          | (go_at_call 15; ((with_reducible refine (CV1 _ (below_step HB.out HBX.out)).out.mono ?_); rintro e w5 ⟨rfl, hb5⟩; have y0 := (hb5.cell (p := ⟨gb, 0, none⟩) blt).trans b0; have y1 := (hb5.cell (p := ⟨gb, 1, none⟩) blt).trans b1; have y2 := (hb5.cell (p := ⟨gb, 2, none⟩) blt).trans b2))
          | (go_at_call 15; ((with_reducible refine (CV2 _ (below_step HB.out (below_step HBX.out hb5))).out.mono ?_); rintro e w6 ⟨rfl, hb6⟩)))
        have hb56 := below_step hb5 hb6
        have hbD : Below wX.heap.size wX w6.drew := hb56.drew
        have hbwX := below_step HB.out HBX.out
        have HSD := Lib.hid (HSS.out _ hbD)
        have HS0 := Lib.hid (HSS.out _ hb56)
        clear y0 y1 y2 a0 a1 a2 b0 b1 b2 hb5 hb6 CV1 CV2
        go_region_held3 (fun w' => w'.cell? ⟨ga, 0, none⟩ = some (.slice A1 n1 c1) ∧ w'.cell? ⟨ga, 1, none⟩ = some (.slice B1 k1 d1) ∧ w'.cell? ⟨ga, 2, none⟩ = some (.int .i64 l1) ∧ w'.cell? ⟨gb, 0, none⟩ = some (.slice A2 n2 c2) ∧ w'.cell? ⟨gb, 1, none⟩ = some (.slice B2 k2 d2) ∧ w'.cell? ⟨gb, 2, none⟩ = some (.int .i64 l2) ∧ w'.cell? ⟨gx, 0, none⟩ = some (.slice A N cA) ∧ w'.cell? ⟨gx, 1, none⟩ = some (.slice B K cB) ∧ w'.cell? ⟨gx, 2, none⟩ = some (.int .i64 L))
          (first | with_reducible exact HSD.out | with_reducible exact HS0.out | with_reducible exact HS1.out | with_reducible exact HS2.out | with_reducible exact HS3.out | with_reducible exact HS4.out | with_reducible exact HS5.out | with_reducible exact HS6.out | go_keep)
          (first
            | (go_at_call 17; ((with_reducible refine (CR _ (below_step hbwX hbD)).out.mono ?_); rintro e wa ⟨A', cA', B', cB', rfl, oS', oM', _, h1'⟩; have ha1 := below_step hbD h1'; have HS1 := Lib.hid (HSS.out _ ha1); have CEq := CE A' cA' B' cB' _ ha1 (oS'.mono (Nat.zero_le _)) (oM'.mono (Nat.zero_le _)); clear oS' oM'))
            | (go_at_call 16; ((with_reducible refine CEq.out.mono ?_); rintro e wb ⟨rfl, h2'⟩; have ha2 := below_step ha1 h2'; have HS2 := Lib.hid (HSS.out _ ha2)))
            | (go_at_call 18; ((with_reducible refine (CVG _ ha2).out.mono ?_); rintro e wc ⟨rfl, h3'⟩; have ha3 := below_step ha2 h3'; have HS3 := Lib.hid (HSS.out _ ha3)))
            | (go_at_call 19; ((with_reducible refine (CCG _ ha3).out.mono ?_); rintro e wd ⟨rfl, h4'⟩; have ha4 := below_step ha3 h4'; have HS4 := Lib.hid (HSS.out _ ha4)))
            | (go_at_call 19; ((with_reducible refine (CC1 _ (below_step hbwX ha4)).out.mono ?_); rintro e we ⟨rfl, h5'⟩; have ha5 := below_step ha4 h5'; have HS5 := Lib.hid (HSS.out _ ha5)))
            | (go_at_call 19; ((with_reducible refine (CC2 _ (below_step hbwX ha5)).out.mono ?_); rintro e wf ⟨rfl, h6'⟩; have ha6 := below_step ha5 h6'; have HS6 := Lib.hid (HSS.out _ ha6))))
        have HA6 := Lib.hid (below_step HBX.out ha6)
        have HG6 : Hid (GotI wf gx A N cA B K cB L S M) := Lib.hid (HGot.out.keep ha6)
        clear CR CC1 CC2 CVG CCG CE CEq HSS HSD HS0 HS1 HS2 HS3 HS4 HS5 HS6 h1' h2' h3' h4' h5' h6' ha1 ha2 ha3 ha4 ha5 ha6 hbD hbwX hb56 HGot HDV
        obtain ⟨T, hT⟩ : ∃ T, t % 8 = T := ⟨_, rfl⟩
        have hT8 : T < 8 := by omega
        have t0 : (0 : Int) ≤ (T : Int) := Int.natCast_nonneg _
        have ti : (t : Int) % 8 = (T : Int) := by omega
        have tm : (t : Int).tmod 8 = (T : Int) := by rw [Int.tmod_eq_emod_of_nonneg (by omega)]; exact ti
        have tw : IntKind.u8.wrap (T : Int) = (T : Int) := IntWalk.u8_in _ (by omega)
        clear hT
        go_upto_region 11 with fail
        go_loopw [9, 10, 67] (fun _ _ i wr => ∃ (j : Nat) (A : Option Addr) (N cA : Nat) (B : Option Addr) (K cB : Nat) (L : Int) (S M : List Int), j ≤ T ∧ i = .int .u8 j ∧ Below w0.heap.size w0 wr ∧ GotI wr gx A N cA B K cB L S M) (fun _ _ i _ => T - (intOf i).toNat)
        case atStart => exact ⟨0, _, _, _, _, _, _, _, _, _, by omega, rfl, HA6.out, HG6.out⟩
        case round =>
          obtain ⟨j, A, N, cA, B, K, cB, L, S, M, hj, rfl, hbr, hG⟩ := hrel
          have hj0 : (0 : Int) ≤ (j : Int) := Int.natCast_nonneg _
          by_cases hjn : j < T
          · have hj1 : (j : Int) < (T : Int) := by omega
            have wj : IntKind.u8.wrap ((j : Int) + 1) = (j : Int) + 1 := IntWalk.u8_in _ (by omega)
            obtain ⟨x0, x1, x2, xlt⟩ := hG.box
            obtain ⟨b0, b1, b2, blt⟩ := HD.out.2.keep hbr
            have hvG := hG.v
            obtain ⟨eK, hN64, _, hL0, hL64⟩ := cn_data hvG hG.s.ri.1 hG.m.ri.1
            have hbwr := below_step HB.out hbr
            have hN0 : (0 : Int) ≤ (N : Int) := Int.natCast_nonneg _
            have hn0 : (0 : Int) ≤ (n2 : Int) := Int.natCast_nonneg _
            have wN : IntKind.i64.wrap ((N : Int) + (n2 : Int)) = (N : Int) + (n2 : Int) := IntWalk.i64_in _ (by omega)
            have wL : IntKind.i64.wrap (L + l2) = L + l2 := IntWalk.i64_in _ (by omega)
            have CUn := union_yes A B A2 B2 N cA K cB n2 c2 k2 d2 L l2 S M s2 m2 wr (dv_of hG.s.ri hG.m.ri hvG) (H2.out.keep hbwr) hvG HV2.out
            have hslen := hG.s.ri.1
            have hs2len := H2.out.hs.1
            have HGo := Lib.hid hG
            have HBR := Lib.hid hbr
            by_cases hfit : N + n2 ≤ 64 ∧ L + l2 ≤ 64
            · replace CUn : Calls Try.prog 14 #[dval A N cA B K cB L, dval A2 n2 c2 B2 k2 d2 l2] wr fun e w' => ∃ A5 cs B5 cm, e = .returned (.tuple #[dval A5 (N + n2) cs B5 (K + k2) cm (L + l2), .int .i64 0]) ∧ OI w' wr.heap.size (.slice A5 (N + n2) cs) (S ++ s2) ∧ OI w' wr.heap.size (.slice B5 (K + k2) cm) (bsM M m2) ∧ Below wr.heap.size wr w' := CUn.mono fun e w' hh => by unfold UnPost at hh; rw [if_pos hfit] at hh; exact hh
              have hvN := uni_valid hvG HV2.out (by omega) hfit.2
              have hc1 : ¬ (64 : Int) < (N : Int) + (n2 : Int) := by omega
              have hc2 : ¬ (64 : Int) < L + l2 := by omega
              have HVN := Lib.hid hvN
              have CUH := Lib.hid CUn
              clear CUn hvG hvN hG hbr hbwr eK hfit hslen hs2len
              go_upto_region 13 with (go_at_call 14; ((with_reducible refine CUH.out.mono ?_); rintro e w5 ⟨A5, c5, B5, d5, rfl, oS, oM, hb5⟩))
              have hb6 := below_step hb5 (below_alloc w5 (dbox A5 (N + n2) c5 B5 (K + k2) d5 (L + l2)))
              have hd6 := DB.new w5 A5 (N + n2) c5 B5 (K + k2) d5 (L + l2)
              have oS6 := oS.alloc (dbox A5 (N + n2) c5 B5 (K + k2) d5 (L + l2))
              have oM6 := oM.alloc (dbox A5 (N + n2) c5 B5 (K + k2) d5 (L + l2))
              unfold dbox at hb6 hd6 oS6 oM6
              generalize w5.alloc (.cells #[.slice A5 (N + n2) c5, .slice B5 (K + k2) d5, .int .i64 (L + l2)] 24) = w6 at hb6 hd6 oS6 oM6 ⊢
              obtain ⟨gy, hgy⟩ : ∃ gy, w5.heap.size = gy := ⟨_, rfl⟩
              rw [hgy] at hd6 ⊢
              have hG6 := HGo.out.keep hb6
              obtain ⟨u0, u1, u2, ult⟩ := hd6
              obtain ⟨v0, v1, v2, vlt⟩ := hG6.box
              have f0 := hG6.fz 0
              have f1 := hG6.fz 1
              have f2 := hG6.fz 2
              obtain ⟨y0, y1, y2, ylt⟩ := HD.out.2.keep (below_step HBR.out hb6)
              have hB6 := below_step HBR.out hb6
              have hxr := xlt
              have HN : Hid (GotI (set3 w6 gx (.slice A5 (N + n2) c5) (.slice B5 (K + k2) d5) (.int .i64 (L + l2))) gx A5 (N + n2) c5 B5 (K + k2) d5 (L + l2) (S ++ s2) (bsM M m2)) := Lib.hid (by
                have h1 : (Value.slice A5 (N + n2) c5).ownBlock ≠ some gx := fun e => by have := (World.ownsRow.lt oS6 _ e).1; omega
                have h2 : (Value.slice B5 (K + k2) d5).ownBlock ≠ some gx := fun e => by have := (World.ownsRow.lt oM6 _ e).1; omega
                obtain ⟨p0, p1, p2⟩ := set3_cells w6 gx (.slice A5 (N + n2) c5) (.slice B5 (K + k2) d5) (.int .i64 (L + l2)) v0 v1 v2
                exact ⟨⟨p0, p1, p2, by simp [World.setCell]; exact vlt⟩, fun i => (World.frozen?_setCell _ _ _ _).trans ((World.frozen?_setCell _ _ _ _).trans ((World.frozen?_setCell _ _ _ _).trans (hG6.fz i))), (oS6.set3 h1 _ _ _).mono (Nat.zero_le _), (oM6.set3 h2 _ _ _).mono (Nat.zero_le _), h1, h2, HVN.out⟩)
              have HBN := Lib.hid (set3_below hB6 HGL.out (.slice A5 (N + n2) c5) (.slice B5 (K + k2) d5) (.int .i64 (L + l2)))
              clear CUH hG6 hB6 oS6 oM6 oS oM hb5 hb6 hgy x0 x1 x2 b0 b1 b2
              go_wp2
              go_roundw
              case rel => exact ⟨j + 1, _, _, _, _, _, _, _, _, _, by omega, by go_num, HBN.out, HN.out⟩
              case measure => simp [intOf]; omega
            · replace CUn : Calls Try.prog 14 #[dval A N cA B K cB L, dval A2 n2 c2 B2 k2 d2 l2] wr (CnNo wr 5) := CUn.mono fun e w' hh => by unfold UnPost at hh; rw [if_neg hfit] at hh; exact hh
              have CUH := Lib.hid CUn
              have hfit2 : (64 : Int) < (N : Int) + (n2 : Int) ∨ (64 : Int) < L + l2 := by omega
              clear CUn hvG hG hbr hbwr eK hfit hslen hs2len
              go_upto_region 13 with (go_at_call 14; ((with_reducible refine CUH.out.mono ?_); rintro e w5 ⟨rfl, hb5⟩))
              have hb6 := below_step hb5 (below_alloc w5 (.cells #[.slice none 0 0, .slice none 0 0, .int .i64 0] 24))
              have hd6 := (bxz_new w5).1
              generalize w5.alloc (.cells #[.slice none 0 0, .slice none 0 0, .int .i64 0] 24) = w6 at hb6 hd6 ⊢
              obtain ⟨gy, hgy⟩ : ∃ gy, w5.heap.size = gy := ⟨_, rfl⟩
              rw [hgy] at hd6 ⊢
              obtain ⟨u0, u1, u2, ult⟩ := hd6
              obtain ⟨v0, v1, v2, vlt⟩ := HGo.out.box.keep hb6
              obtain ⟨y0, y1, y2, ylt⟩ := HD.out.2.keep (below_step HBR.out hb6)
              have HB6 := Lib.hid (below_step HB.out (below_step HBR.out hb6))
              clear CUH hb5 hb6 hgy x0 x1 x2 b0 b1 b2
              by_cases hc1 : (64 : Int) < (N : Int) + (n2 : Int)
              · clear hfit2
                go_wp2_with (go_at_call 16; ((with_reducible refine (CZ _).out.mono ?_); rintro e w7 ⟨rfl, hb7⟩))
                go_ret
                exact ⟨rfl, below_step HB6.out hb7⟩
              · have hc2 : (64 : Int) < L + l2 := by omega
                clear hfit2
                go_wp2_with (go_at_call 16; ((with_reducible refine (CZ _).out.mono ?_); rintro e w7 ⟨rfl, hb7⟩))
                go_ret
                exact ⟨rfl, below_step HB6.out hb7⟩
          · obtain rfl : T = j := by omega
            have HBR := Lib.hid hbr
            clear hG hbr
            go_wp2
            go_ret
            exact ⟨rfl, below_step HB.out HBR.out⟩

end Go.Proofs.Ytkfjledhnakfoaa
