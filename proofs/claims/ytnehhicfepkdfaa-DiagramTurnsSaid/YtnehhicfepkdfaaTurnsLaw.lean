/- For every diagram and every two numbers the law DiagramTurns returns true, and its arguments read afterwards as before. No condition. -/
import Derived.Test.YtnehhicfepkdfaaGreat
namespace Go.Proofs.Ytnehhicfepkdfaa
open Go.ChangeShapes Go.WideShapes Go.ChangeAt Go.RowKit Go.Joins

theorem turnI_bounds (h k : Int) : -1 ≤ turnI h k ∧ turnI h k ≤ max h (-1) + 3 ∧ (0 ≤ h → turnI h k / 4 = h / 4 ∧ 0 ≤ turnI h k ∧ turnI h k % 4 = (h % 4 + k.tmod 4 + 4) % 4) ∧ (h < 0 → turnI h k = -1) := by
  unfold turnI
  have := tmod4 k
  split <;> omega
theorem turn4 (h k : Int) : turnI (turnI (turnI (turnI h k) k) k) k = max h (-1) := by
  have ht := tmod4 k
  by_cases h0 : h < 0
  · have e1 : turnI h k = -1 := by simp [turnI, h0]
    have e2 : turnI (-1) k = -1 := by simp [turnI]
    rw [e1, e2, e2, e2]; omega
  · have b1 := (turnI_bounds h k).2.2.1 (by omega)
    have b2 := (turnI_bounds (turnI h k) k).2.2.1 b1.2.1
    have b3 := (turnI_bounds (turnI (turnI h k) k) k).2.2.1 b2.2.1
    have b4 := (turnI_bounds (turnI (turnI (turnI h k) k) k) k).2.2.1 b3.2.1
    omega

/-- c turns. -/
def tI (x y : Int) : Nat → Int
  | 0 => x
  | c + 1 => turnI (tI x y c) y
theorem tI_bounds (x y : Int) (hx : -9223372036854775808 ≤ x) (hx1 : x ≤ 1099511627776) (c : Nat) (hc : c ≤ 4) : -9223372036854775808 ≤ tI x y c ∧ tI x y c ≤ 1099511627776 + 3 * c := by
  induction c with
  | zero => simp [tI]; omega
  | succ c ih =>
    have h1 := ih (by omega)
    have h2 := turnI_bounds (tI x y c) y
    show _ ≤ turnI (tI x y c) y ∧ turnI (tI x y c) y ≤ _
    omega

set_option maxHeartbeats 3200000 in
set_option maxRecDepth 100000 in
theorem turns_walk (A B : Option Addr) (ns cs nm cm : Nat) (lp x y : Int) (signs mate : List Int) (w : World) (hs : RI w A ns signs) (hm : RI w B nm mate) (hns : ns ≤ 9223372036854775807) (hnm : nm ≤ 9223372036854775807) (hmI : ∀ z ∈ mate, inI z) (hx : inI x) (hy : inI y) :
    Calls Try.prog 4 #[dval A ns cs B nm cm lp, .int .i64 x, .int .i64 y] w fun e w' => e = .returned (.bool true) ∧ Below w.heap.size w w' := by
  have hd := DB.new w A ns cs B nm cm lp
  have hb0 := below_alloc w (dbox A ns cs B nm cm lp)
  go_enter Try.func4, Try.ntmps4
  go_wp2_with fail
  refine (awake_any _).mono ?_
  rintro e w1 ⟨rfl, hb1⟩
  have hd1 := hd.keep hb1
  have hw1 := below_step hb0 hb1
  obtain ⟨d0, d1, d2, dlt⟩ := hd1
  clear hd hb0 hb1
  unfold inI at hx hy
  obtain ⟨hx0, hx1⟩ := hx
  obtain ⟨hy0, hy1⟩ := hy
  cases hg : grB ns nm with
  | true =>
    have CG := Lib.hid (great_big A B ns cs nm cm lp w1 hns hnm true hg)
    clear hg hs hm hmI
    go_wp2_with (go_at_call 12; ((with_reducible refine CG.out.mono ?_); rintro e w2 ⟨rfl, hb2⟩))
    go_ret
    exact ⟨rfl, below_step hw1 hb2⟩
  | false =>
    have H := Lib.hid (DV.mk' (hs.keep hw1) (hm.keep hw1) hmI hg)
    have CG := Lib.hid (great_big A B ns cs nm cm lp w1 hns hnm false hg)
    obtain ⟨g1, g2⟩ := grB_out hg
    clear hg hs hm hmI hns hnm
    by_cases hbig : 1099511627776 < x
    · have hgt : decide (1099511627776 < x) = true := by simp [hbig]
      go_wp2_with (go_at_call 12; ((with_reducible refine CG.out.mono ?_); rintro e w2 ⟨rfl, hb2⟩))
      go_ret
      exact ⟨rfl, below_step hw1 hb2⟩
    · have hgt : decide (1099511627776 < x) = false := by simp only [decide_eq_false_iff_not]; exact hbig
      have hd1 : DB w1 w.heap.size A ns cs B nm cm lp := ⟨d0, d1, d2, dlt⟩
      have HD := Lib.hid hd1
      clear hd1
      go_wp2_with (go_at_call 12; ((with_reducible refine CG.out.mono ?_); rintro e w2 ⟨rfl, hb2⟩; have hd2 := HD.out.keep hb2; have H2 := Lib.hid (H.out.keep hb2); obtain ⟨e0, e1, e2, elt⟩ := hd2))
      have hwF := below_step hw1 hb2
      have hx2 : x ≤ 1099511627776 := by omega
      have CT : ∀ w3 : World, Hid (Calls Try.prog 19 #[.int .i64 x, .int .i64 y] w3 fun e w' => e = .returned (.int .i64 (turnI x y)) ∧ w3 = w') := fun w3 => turn_any x y w3 hx0 hx1 hy0 hy1
      have CR : ∀ w3 : World, Hid (Calls Try.prog 20 #[.int .i64 x, .int .i64 y] w3 fun e w' => e = .returned (.int .i64 (turnI x y)) ∧ w3 = w') := fun w3 => rturn_any x y w3 hx0 hx1 hy0 hy1
      have CO : ∀ w3 : World, Hid (Calls Try.prog 21 #[.int .i64 x] w3 fun e w' => e = .returned (.int .i64 (turnI x 2)) ∧ w3 = w') := fun w3 => opposite_any x w3 hx0 hx1
      have CR2 : ∀ w3 : World, Hid (Calls Try.prog 20 #[.int .i64 x, .int .i64 2] w3 fun e w' => e = .returned (.int .i64 (turnI x 2)) ∧ w3 = w') := fun w3 => rturn_any x 2 w3 hx0 hx1 (by omega) (by omega)
      have hcase : (validB signs mate lp = false) ∨ (validB signs mate lp = true ∧ x < 0) ∨ (validB signs mate lp = true ∧ 0 ≤ x ∧ (nm : Int) ≤ x) ∨ (validB signs mate lp = true ∧ 0 ≤ x ∧ x < (nm : Int)) := by
        cases validB signs mate lp
        · exact .inl rfl
        · right
          by_cases h0 : x < 0
          · exact .inl ⟨rfl, h0⟩
          · by_cases h1 : (nm : Int) ≤ x
            · exact .inr (.inl ⟨rfl, by omega, h1⟩)
            · exact .inr (.inr ⟨rfl, by omega, by omega⟩)
      clear hw1 hb2 CG hgt hbig HD H d0 d1 d2 dlt
      have HLM := Lib.hid H2.out.hm.1
      rcases hcase with hv | ⟨hv, h0⟩ | ⟨hv, h0, h1⟩ | ⟨hv, h0, h1⟩
      · have CV := Lib.hid (H2.out.rvalid cs cm lp false hv)
        have COU : ∀ w3 : World, Below w2.heap.size w2 w3 → Hid (Calls Try.prog 22 #[dval A ns cs B nm cm lp, .int .i64 x] w3 fun e w' => e = .returned (.bool false) ∧ Below w3.heap.size w3 w') := fun w3 hb => out_any A B ns cs nm cm lp x signs mate w3 (H2.out.keep hb) hx0 hx1 _ (by unfold outV; rw [hv, HLM.out]; simp)
        clear hv
        go_wp2_with (first
        | (go_at_call 17; ((with_reducible refine CV.out.mono ?_); rintro e w3 ⟨rfl, hb3⟩; have f0 := (hb3.cell (p := ⟨w.heap.size, 0, none⟩) elt).trans e0; have f1 := (hb3.cell (p := ⟨w.heap.size, 1, none⟩) elt).trans e1; have f2 := (hb3.cell (p := ⟨w.heap.size, 2, none⟩) elt).trans e2))
        | (go_at_call 19; ((with_reducible refine (CT _).out.mono ?_); rintro e w' ⟨rfl, rfl⟩))
        | (go_at_call 20; ((with_reducible refine (CR _).out.mono ?_); rintro e w' ⟨rfl, rfl⟩))
        | (go_at_call 20; ((with_reducible refine (CR2 _).out.mono ?_); rintro e w' ⟨rfl, rfl⟩))
        | (go_at_call 21; ((with_reducible refine (CO _).out.mono ?_); rintro e w' ⟨rfl, rfl⟩))
        | (go_at_call 22; ((with_reducible refine (COU _ hb3).out.mono ?_); rintro e w4 ⟨rfl, hb4⟩; have k0 := (hb4.cell (p := ⟨w.heap.size, 0, none⟩) (Nat.lt_of_lt_of_le elt hb3.size)).trans f0))
        | (go_at_call 23; ((with_reducible refine (CRO _ hb3 hb4).out.mono ?_); rintro e w' ⟨rfl, rfl⟩)))
        have HBF := Lib.hid (below_step hwF (below_step hb3 hb4))
        go_loop [8, 59] (fun v i => ∃ c : Nat, c ≤ 4 ∧ i = .int .i64 c ∧ v = .int .i64 (tI x y c)) (fun _ i => 4 - (intOf i).toNat)
        case atStart => exact ⟨0, by omega, rfl, rfl⟩
        case round =>
          obtain ⟨c, hc, rfl, rfl⟩ := hrel
          have hcb := tI_bounds x y hx0 hx2 c hc
          by_cases hlt : c < 4
          · have CC : ∀ w3 : World, Hid (Calls Try.prog 19 #[.int .i64 (tI x y c), .int .i64 y] w3 fun e w' => e = .returned (.int .i64 (tI x y (c + 1))) ∧ w3 = w') := fun w3 => turn_any (tI x y c) y w3 (by omega) (by omega) hy0 hy1
            generalize tI x y c = z at *
            have hc0 : (0 : Int) ≤ (c : Int) := Int.natCast_nonneg _
            have hc1 : (c : Int) < 4 := by omega
            go_wp2_with (go_at_call 19; ((with_reducible refine (CC _).out.mono ?_); rintro e w' ⟨rfl, rfl⟩))
            go_round
            case rel => exact ⟨c + 1, by omega, by go_num, rfl⟩
            case measure => simp [intOf]; omega
          · obtain rfl : c = 4 := by omega
            have h4 : tI x y 4 = max x (-1) := turn4 x y
            rw [h4]
            clear h4 hcb hlt hc
            by_cases hs : x < -1
            · have hmx : max x (-1) = -1 := by omega
              rw [hmx]
              clear hmx
              go_wp2
              go_ret
              exact ⟨rfl, HBF.out⟩
            · have hmx : max x (-1) = x := by omega
              rw [hmx]
              clear hmx
              go_wp2
              go_ret
              exact ⟨rfl, HBF.out⟩
      · have hd0 : decide (0 ≤ x) = false := by simp only [decide_eq_false_iff_not]; omega
        have CV := Lib.hid (H2.out.rvalid cs cm lp true hv)
        have COU : ∀ w3 : World, Below w2.heap.size w2 w3 → Hid (Calls Try.prog 22 #[dval A ns cs B nm cm lp, .int .i64 x] w3 fun e w' => e = .returned (.bool false) ∧ Below w3.heap.size w3 w') := fun w3 hb => out_any A B ns cs nm cm lp x signs mate w3 (H2.out.keep hb) hx0 hx1 _ (by unfold outV; rw [hv, HLM.out]; simp; omega)
        clear hv
        go_wp2_with (first
        | (go_at_call 17; ((with_reducible refine CV.out.mono ?_); rintro e w3 ⟨rfl, hb3⟩; have f0 := (hb3.cell (p := ⟨w.heap.size, 0, none⟩) elt).trans e0; have f1 := (hb3.cell (p := ⟨w.heap.size, 1, none⟩) elt).trans e1; have f2 := (hb3.cell (p := ⟨w.heap.size, 2, none⟩) elt).trans e2))
        | (go_at_call 19; ((with_reducible refine (CT _).out.mono ?_); rintro e w' ⟨rfl, rfl⟩))
        | (go_at_call 20; ((with_reducible refine (CR _).out.mono ?_); rintro e w' ⟨rfl, rfl⟩))
        | (go_at_call 20; ((with_reducible refine (CR2 _).out.mono ?_); rintro e w' ⟨rfl, rfl⟩))
        | (go_at_call 21; ((with_reducible refine (CO _).out.mono ?_); rintro e w' ⟨rfl, rfl⟩))
        | (go_at_call 22; ((with_reducible refine (COU _ hb3).out.mono ?_); rintro e w4 ⟨rfl, hb4⟩; have k0 := (hb4.cell (p := ⟨w.heap.size, 0, none⟩) (Nat.lt_of_lt_of_le elt hb3.size)).trans f0))
        | (go_at_call 23; ((with_reducible refine (CRO _ hb3 hb4).out.mono ?_); rintro e w' ⟨rfl, rfl⟩)))
        have HBF := Lib.hid (below_step hwF (below_step hb3 hb4))
        go_loop [8, 59] (fun v i => ∃ c : Nat, c ≤ 4 ∧ i = .int .i64 c ∧ v = .int .i64 (tI x y c)) (fun _ i => 4 - (intOf i).toNat)
        case atStart => exact ⟨0, by omega, rfl, rfl⟩
        case round =>
          obtain ⟨c, hc, rfl, rfl⟩ := hrel
          have hcb := tI_bounds x y hx0 hx2 c hc
          by_cases hlt : c < 4
          · have CC : ∀ w3 : World, Hid (Calls Try.prog 19 #[.int .i64 (tI x y c), .int .i64 y] w3 fun e w' => e = .returned (.int .i64 (tI x y (c + 1))) ∧ w3 = w') := fun w3 => turn_any (tI x y c) y w3 (by omega) (by omega) hy0 hy1
            generalize tI x y c = z at *
            have hc0 : (0 : Int) ≤ (c : Int) := Int.natCast_nonneg _
            have hc1 : (c : Int) < 4 := by omega
            go_wp2_with (go_at_call 19; ((with_reducible refine (CC _).out.mono ?_); rintro e w' ⟨rfl, rfl⟩))
            go_round
            case rel => exact ⟨c + 1, by omega, by go_num, rfl⟩
            case measure => simp [intOf]; omega
          · obtain rfl : c = 4 := by omega
            have h4 : tI x y 4 = max x (-1) := turn4 x y
            rw [h4]
            clear h4 hcb hlt hc
            by_cases hs : x < -1
            · have hmx : max x (-1) = -1 := by omega
              rw [hmx]
              clear hmx
              go_wp2
              go_ret
              exact ⟨rfl, HBF.out⟩
            · have hmx : max x (-1) = x := by omega
              rw [hmx]
              clear hmx
              go_wp2
              go_ret
              exact ⟨rfl, HBF.out⟩
      · have hd0 : decide (0 ≤ x) = true := by simp only [decide_eq_true_eq]; omega
        have hd1 : decide (x < (nm : Int)) = false := by simp only [decide_eq_false_iff_not]; omega
        have CV := Lib.hid (H2.out.rvalid cs cm lp true hv)
        have COU : ∀ w3 : World, Below w2.heap.size w2 w3 → Hid (Calls Try.prog 22 #[dval A ns cs B nm cm lp, .int .i64 x] w3 fun e w' => e = .returned (.bool false) ∧ Below w3.heap.size w3 w') := fun w3 hb => out_any A B ns cs nm cm lp x signs mate w3 (H2.out.keep hb) hx0 hx1 _ (by unfold outV; rw [hv, HLM.out]; simp; omega)
        clear hv
        go_wp2_with (first
        | (go_at_call 17; ((with_reducible refine CV.out.mono ?_); rintro e w3 ⟨rfl, hb3⟩; have f0 := (hb3.cell (p := ⟨w.heap.size, 0, none⟩) elt).trans e0; have f1 := (hb3.cell (p := ⟨w.heap.size, 1, none⟩) elt).trans e1; have f2 := (hb3.cell (p := ⟨w.heap.size, 2, none⟩) elt).trans e2))
        | (go_at_call 19; ((with_reducible refine (CT _).out.mono ?_); rintro e w' ⟨rfl, rfl⟩))
        | (go_at_call 20; ((with_reducible refine (CR _).out.mono ?_); rintro e w' ⟨rfl, rfl⟩))
        | (go_at_call 20; ((with_reducible refine (CR2 _).out.mono ?_); rintro e w' ⟨rfl, rfl⟩))
        | (go_at_call 21; ((with_reducible refine (CO _).out.mono ?_); rintro e w' ⟨rfl, rfl⟩))
        | (go_at_call 22; ((with_reducible refine (COU _ hb3).out.mono ?_); rintro e w4 ⟨rfl, hb4⟩; have k0 := (hb4.cell (p := ⟨w.heap.size, 0, none⟩) (Nat.lt_of_lt_of_le elt hb3.size)).trans f0))
        | (go_at_call 23; ((with_reducible refine (CRO _ hb3 hb4).out.mono ?_); rintro e w' ⟨rfl, rfl⟩)))
        have HBF := Lib.hid (below_step hwF (below_step hb3 hb4))
        go_loop [8, 59] (fun v i => ∃ c : Nat, c ≤ 4 ∧ i = .int .i64 c ∧ v = .int .i64 (tI x y c)) (fun _ i => 4 - (intOf i).toNat)
        case atStart => exact ⟨0, by omega, rfl, rfl⟩
        case round =>
          obtain ⟨c, hc, rfl, rfl⟩ := hrel
          have hcb := tI_bounds x y hx0 hx2 c hc
          by_cases hlt : c < 4
          · have CC : ∀ w3 : World, Hid (Calls Try.prog 19 #[.int .i64 (tI x y c), .int .i64 y] w3 fun e w' => e = .returned (.int .i64 (tI x y (c + 1))) ∧ w3 = w') := fun w3 => turn_any (tI x y c) y w3 (by omega) (by omega) hy0 hy1
            generalize tI x y c = z at *
            have hc0 : (0 : Int) ≤ (c : Int) := Int.natCast_nonneg _
            have hc1 : (c : Int) < 4 := by omega
            go_wp2_with (go_at_call 19; ((with_reducible refine (CC _).out.mono ?_); rintro e w' ⟨rfl, rfl⟩))
            go_round
            case rel => exact ⟨c + 1, by omega, by go_num, rfl⟩
            case measure => simp [intOf]; omega
          · obtain rfl : c = 4 := by omega
            have h4 : tI x y 4 = max x (-1) := turn4 x y
            rw [h4]
            clear h4 hcb hlt hc
            by_cases hs : x < -1
            · have hmx : max x (-1) = -1 := by omega
              rw [hmx]
              clear hmx
              go_wp2
              go_ret
              exact ⟨rfl, HBF.out⟩
            · have hmx : max x (-1) = x := by omega
              rw [hmx]
              clear hmx
              go_wp2
              go_ret
              exact ⟨rfl, HBF.out⟩
      · obtain ⟨n, rfl⟩ := Int.eq_ofNat_of_zero_le h0
        have hd0 : decide (0 ≤ (n : Int)) = true := by simp only [decide_eq_true_eq]; omega
        have hd1 : decide ((n : Int) < (nm : Int)) = true := by simp only [decide_eq_true_eq]; omega
        have hn4 : n / 4 < ns := by
          obtain ⟨v1, _⟩ := validB_out hv
          rw [H2.out.hs.1, H2.out.hm.1] at v1
          have := limB_out v1
          omega
        have CV := Lib.hid (H2.out.rvalid cs cm lp true hv)
        have COU : ∀ w3 : World, Below w2.heap.size w2 w3 → Hid (Calls Try.prog 22 #[dval A ns cs B nm cm lp, .int .i64 (n : Int)] w3 fun e w' => e = .returned (.bool (outB signs n)) ∧ Below w3.heap.size w3 w') := fun w3 hb => out_any A B ns cs nm cm lp n signs mate w3 (H2.out.keep hb) hx0 hx1 _ (by unfold outV; rw [hv, HLM.out]; simp; omega)
        have CRO : ∀ w3 w4 : World, Below w2.heap.size w2 w3 → Below w3.heap.size w3 w4 → Hid (Calls Try.prog 23 #[.slice A ns cs, .int .i64 (n : Int)] w4 fun e w' => e = .returned (.bool (outB signs n)) ∧ w4 = w') := fun w3 w4 hb hb' => rout_any A ns cs signs n w4 ((H2.out.hs.keep hb).keep hb') hn4 (by omega)
        generalize outB signs n = p at COU CRO
        clear hv
        go_wp2_with (first
        | (go_at_call 17; ((with_reducible refine CV.out.mono ?_); rintro e w3 ⟨rfl, hb3⟩; have f0 := (hb3.cell (p := ⟨w.heap.size, 0, none⟩) elt).trans e0; have f1 := (hb3.cell (p := ⟨w.heap.size, 1, none⟩) elt).trans e1; have f2 := (hb3.cell (p := ⟨w.heap.size, 2, none⟩) elt).trans e2))
        | (go_at_call 19; ((with_reducible refine (CT _).out.mono ?_); rintro e w' ⟨rfl, rfl⟩))
        | (go_at_call 20; ((with_reducible refine (CR _).out.mono ?_); rintro e w' ⟨rfl, rfl⟩))
        | (go_at_call 20; ((with_reducible refine (CR2 _).out.mono ?_); rintro e w' ⟨rfl, rfl⟩))
        | (go_at_call 21; ((with_reducible refine (CO _).out.mono ?_); rintro e w' ⟨rfl, rfl⟩))
        | (go_at_call 22; ((with_reducible refine (COU _ hb3).out.mono ?_); rintro e w4 ⟨rfl, hb4⟩; have k0 := (hb4.cell (p := ⟨w.heap.size, 0, none⟩) (Nat.lt_of_lt_of_le elt hb3.size)).trans f0))
        | (go_at_call 23; ((with_reducible refine (CRO _ _ hb3 hb4).out.mono ?_); rintro e w' ⟨rfl, rfl⟩)))
        have HBF := Lib.hid (below_step hwF (below_step hb3 hb4))
        go_loop [8, 59] (fun v i => ∃ c : Nat, c ≤ 4 ∧ i = .int .i64 c ∧ v = .int .i64 (tI (n : Int) y c)) (fun _ i => 4 - (intOf i).toNat)
        case atStart => exact ⟨0, by omega, rfl, rfl⟩
        case round =>
          obtain ⟨c, hc, rfl, rfl⟩ := hrel
          have hcb := tI_bounds (n : Int) y hx0 hx2 c hc
          by_cases hlt : c < 4
          · have CC : ∀ w3 : World, Hid (Calls Try.prog 19 #[.int .i64 (tI (n : Int) y c), .int .i64 y] w3 fun e w' => e = .returned (.int .i64 (tI (n : Int) y (c + 1))) ∧ w3 = w') := fun w3 => turn_any (tI (n : Int) y c) y w3 (by omega) (by omega) hy0 hy1
            generalize tI (n : Int) y c = z at *
            have hc0 : (0 : Int) ≤ (c : Int) := Int.natCast_nonneg _
            have hc1 : (c : Int) < 4 := by omega
            go_wp2_with (go_at_call 19; ((with_reducible refine (CC _).out.mono ?_); rintro e w' ⟨rfl, rfl⟩))
            go_round
            case rel => exact ⟨c + 1, by omega, by go_num, rfl⟩
            case measure => simp [intOf]; omega
          · obtain rfl : c = 4 := by omega
            have h4 : tI (n : Int) y 4 = max (n : Int) (-1) := turn4 (n : Int) y
            rw [h4]
            clear h4 hcb hlt hc
            by_cases hs : (n : Int) < -1
            · have hmx : max (n : Int) (-1) = -1 := by omega
              rw [hmx]
              clear hmx
              go_wp2
              go_ret
              exact ⟨rfl, HBF.out⟩
            · have hmx : max (n : Int) (-1) = (n : Int) := by omega
              rw [hmx]
              clear hmx
              go_wp2
              go_ret
              exact ⟨rfl, HBF.out⟩

end Go.Proofs.Ytnehhicfepkdfaa
