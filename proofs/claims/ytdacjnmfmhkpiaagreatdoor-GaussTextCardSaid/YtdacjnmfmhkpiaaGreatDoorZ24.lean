import Derived.Test.YtdacjnmfmhkpiaaGreatDoorZ23
import Derived.Test.YtdacjnmfmhkpiaaGreatDoorZ17
import Derived.Lib.SmallJoins
import Derived.Deep.DeepCutAuto
import Derived.Test.YtdacjnmfmhkpiaaGreatDoorZ18
/- Walks: the reference's decimal and Format. -/
namespace Go.Proofs.YtdacjnmfmhkpiaaGreatDoor
open Go.RowKit Go.Joins

def digs : ByteArray := ⟨#[48, 49, 50, 51, 52, 53, 54, 55, 56, 57]⟩
theorem dig_at : ∀ i : Fin 10, (digs.extract i (i + 1)).data.toList = [UInt8.ofNat (48 + i)] := by decide
theorem digit_any (n : Nat) (h : n < 10) (w : World) : Calls Tryz.prog 60 #[.int .i64 (n : Nat)] w fun e w' => ∃ b : ByteArray, e = .returned (.string b) ∧ b.data.toList = Lib.decDigits n ∧ w = w' := by
  have hd := dig_at ⟨n, h⟩
  simp only at hd
  have hdd : Lib.decDigits n = [UInt8.ofNat (48 + n)] := Lib.decDigits_one h
  have h0 : (0 : Int) ≤ (n : Int) := Int.natCast_nonneg _
  have h1 : (n : Int) < 10 := by omega
  have h2 : (n : Int) % 10 = n := by omega
  have HD := Lib.hid hd
  have HDD := Lib.hid hdd
  clear hd hdd
  go_enter Tryz.func60, Tryz.ntmps60
  go_wp2
  go_ret
  exact ⟨_, rfl, by rw [HDD.out]; exact HD.out, rfl⟩
theorem size_of {b : ByteArray} {l : List UInt8} (h : b.data.toList = l) : b.size = l.length := by rw [← h]; exact Array.length_toList.symm
theorem join_take_le (ws : List (List UInt8)) (k : Nat) : (Lib.join (ws.take k) [32]).length ≤ (Lib.join ws [32]).length := by
  cases ws with
  | nil => simp
  | cons x r =>
    cases k with
    | zero => simp [Lib.join_nil]
    | succ k =>
      rw [List.take_succ_cons, Lib.join_cons, Lib.join_cons, List.length_append, List.length_append]
      have := Lib.joinTail_take_le [32] r k
      omega
theorem size_dec {b : ByteArray} {n : Nat} (hn : n < 100) (h : b.data.toList = Lib.decDigits n) : b.size ≤ 2 := by rw [size_of h]; exact dec_small n hn
theorem cat4 {sq b a c : ByteArray} {X d : List UInt8} (h1 : sq.data.toList = X) (h2 : b.data.toList = d) : (((sq ++ a) ++ b) ++ c).data.toList = X ++ (a.data.toList ++ d ++ c.data.toList) := by
  rw [data_append, data_append, data_append, h1, h2]; simp only [List.append_assoc]
theorem decimal_any (n : Nat) (h : n < 100) (w : World) : Calls Tryz.prog 60 #[.int .i64 (n : Nat)] w fun e w' => ∃ b : ByteArray, e = .returned (.string b) ∧ b.data.toList = Lib.decDigits n ∧ w = w' := by
  by_cases h10 : n < 10
  · exact digit_any n h10 w
  · obtain ⟨q, hq⟩ : ∃ q, q = n / 10 := ⟨_, rfl⟩
    obtain ⟨r, hr⟩ : ∃ r, r = n % 10 := ⟨_, rfl⟩
    have hr10 : r < 10 := by omega
    have hq10 : q < 10 := by omega
    have hd := dig_at ⟨r, hr10⟩
    simp only at hd
    have hdd : Lib.decDigits n = Lib.decDigits q ++ [UInt8.ofNat (48 + r)] := by
      rw [Lib.decDigits_two h10 h, Lib.decDigits_one hq10, hq, hr]; rfl
    have h0 : (0 : Int) ≤ (n : Int) := Int.natCast_nonneg _
    have h1 : (10 : Int) ≤ (n : Int) := by omega
    have hn : (n : Int) ≤ 100 := by omega
    have h2 : (n : Int) % 10 = (r : Int) := by omega
    have h3 : (n : Int) / 10 = (q : Int) := by omega
    have hr0 : (0 : Int) ≤ (r : Int) := Int.natCast_nonneg _
    have hr1 : (r : Int) < 10 := by omega
    have HD := Lib.hid hd
    have HDD := Lib.hid hdd
    have CQ := Lib.hid (digit_any q hq10 w)
    clear hd hdd hq hr
    go_enter Tryz.func60, Tryz.ntmps60
    go_wp2_with (go_at_call 60; ((with_reducible refine CQ.out.mono ?_); rintro e w1 ⟨b, rfl, hb, rfl⟩; have hbs := size_dec (by omega) hb; have HB := Lib.hid hb; clear hb))
    go_ret
    exact ⟨_, rfl, by rw [HDD.out, data_append, HB.out]; congr 1, rfl⟩

set_option maxHeartbeats 400000 in
set_option maxRecDepth 100000 in
theorem rformat_any (C S : Option Addr) (nc cc ns cs m : Nat) (vss : List (List Vis)) (s : List Int) (w : World) (hC : RVV w C nc vss) (hS : RI w S ns s) (hv : gvalB vss s (m : Int) = true) :
    Calls Tryz.prog 31 #[dval C nc cc S ns cs (m : Int)] w fun e w' => e = .returned (.string ⟨(gTxt vss s (m : Int)).toArray⟩) ∧ Below w.heap.size w w' := by
  have hd := DB.newT w C nc cc S ns cs (m : Int) 36
  have hb0 := below_alloc w (.cells #[.slice C nc cc, .slice S ns cs, .int .i64 (m : Int)] 36)
  have G := Lib.hid (gv_facts hv)
  have hm64 : m ≤ 64 := by have := G.out.lp1; omega
  have hns64 : ns ≤ 64 := by have := G.out.le; have := hS.1; omega
  have hnc128 : nc ≤ 128 := by have h1 := len_flat G.out.ne; have h2 := G.out.len; have h3 := G.out.le; have h4 := hC.1; omega
  have hfl : vss.flatten.length ≤ 128 := by have h2 := G.out.len; have h3 := G.out.le; omega
  have HFL := Lib.hid hfl
  have HC := Lib.hid hC
  have HS := Lib.hid hS
  have HCL := Lib.hid hC.1
  have HSL := Lib.hid hS.1
  have hws : gTxt vss s (m : Int) = Lib.join (gWords vss s m) [32] := by unfold gTxt; rw [Int.toNat_natCast]
  rw [hws]
  have hgl := gTxt_len hv
  rw [hws] at hgl
  have HGTL := Lib.hid hgl
  clear hgl
  have hwl := gw_len vss s m
  rw [hC.1] at hwl
  have HWL := Lib.hid hwl
  clear hC hS hv hws hwl hfl
  go_enter Tryz.func31, Tryz.ntmps31
  go_upto_region 1 with fail
  generalize w.alloc (.cells #[.slice C nc cc, .slice S ns cs, .int .i64 (m : Int)] 36) = wA at *
  obtain ⟨d0, d1, d2, dlt⟩ := hd
  have hw0 : Below wA.heap.size wA wA := Below.refl _ _
  have ht0 : (ByteArray.mk #[]).data.toList = Lib.join ((gWords vss s m).take 0) [32] := rfl
  have HT0 := Lib.hid ht0
  clear ht0
  go_wp2
  go_loopw [3, 4, 5, 6, 7, 8] (fun u i _ _ _ _ wr => ∃ (k : Nat) (sb : ByteArray), k ≤ nc + m ∧ i = .int .i64 k ∧ u = .string sb ∧ sb.data.toList = Lib.join ((gWords vss s m).take k) [32] ∧ Below wA.heap.size wA wr) (fun _ i _ _ _ _ _ => nc + m - (intOf i).toNat)
  case atStart => exact ⟨0, _, by omega, rfl, rfl, HT0.out, hw0⟩
  case round =>
    obtain ⟨k, sb, hk, rfl, rfl, hsb, hbr⟩ := hrel
    have hk0 : (0 : Int) ≤ (k : Int) := Int.natCast_nonneg _
    have hbw := below_step hb0 hbr
    have k0 := (hbr.cell (p := ⟨w.heap.size, 0, none⟩) dlt).trans d0
    have k1 := (hbr.cell (p := ⟨w.heap.size, 1, none⟩) dlt).trans d1
    have k2 := (hbr.cell (p := ⟨w.heap.size, 2, none⟩) dlt).trans d2
    have klt := Nat.lt_of_lt_of_le dlt hbr.size
    by_cases hlt : k < nc + m
    · have hk1 : (k : Int) < (nc : Int) + (m : Int) := by omega
      have hjs := join_snoc (gWords vss s m) k (by rw [HWL.out]; exact hlt)
      obtain ⟨P, hP⟩ : ∃ P, Lib.join ((gWords vss s m).take k) [32] ++ (if 0 < k then [32] else []) = P := ⟨_, rfl⟩
      rw [hP] at hjs
      have HJS := Lib.hid hjs
      have hsz : sb.size ≤ 2000 := by rw [size_of hsb]; exact Nat.le_trans (join_take_le _ _) HGTL.out
      have HSB := Lib.hid hsb
      have HP := Lib.hid hP
      clear hjs hsb hP
      have hX : ∃ sx : ByteArray, sx.data.toList = P ∧ sx = if 0 < k then sb ++ ⟨#[32]⟩ else sb := by
        by_cases hi : 0 < k
        · refine ⟨sb ++ ⟨#[32]⟩, ?_, by rw [if_pos hi]⟩
          rw [data_append, HSB.out, ← HP.out, if_pos hi]
        · refine ⟨sb, ?_, by rw [if_neg hi]⟩
          rw [HSB.out, ← HP.out, if_neg hi, List.append_nil]
      obtain ⟨sx, hx1, hx2⟩ := hX
      have hPl : P.length ≤ 2001 := by
        rw [← HP.out, List.length_append, ← size_of HSB.out]
        split <;> simp <;> omega
      have hxz : sx.size ≤ 2001 := by rw [size_of hx1]; exact hPl
      have HX := Lib.hid hx1
      clear hx1
      go_upto_if 20 with fail
      go_cut [3] (fun u wX => u = .string sx ∧ wX = wr)
      case first =>
        by_cases hi : 0 < k
        · have hi1 : 0 < (k : Int) := by omega
          rw [if_pos hi] at hx2
          have HX2 := Lib.hid hx2
          clear hi hx2
          go_wp2_with fail
          go_meet
          exact ⟨by rw [HX2.out], rfl⟩
        · have hi1 : (k : Int) ≤ 0 := by omega
          rw [if_neg hi] at hx2
          have HX2 := Lib.hid hx2
          clear hi hx2
          go_wp2_with fail
          go_meet
          exact ⟨by rw [HX2.out], rfl⟩
      case rest =>
        obtain ⟨rfl, hwc⟩ := hcut
        obtain rfl : wr = wc := hwc.symm
        clear hx2
        by_cases hkc : k < nc
        · have hkc1 : (k : Int) < (nc : Int) := by omega
          obtain ⟨bC, oC, hCe, hbC, hcc⟩ := HC.out.2 (by omega)
          subst hCe
          obtain ⟨A1, n1, c1, hcel0, hrv⟩ := hcc k hkc
          have hcel := (hbw.cell (p := ⟨bC, oC + k, none⟩) hbC).trans hcel0
          have hkl : k < vss.length := by rw [HCL.out]; exact hkc
          have hgl := gw_left (s := s) (m := m) hkl
          have hrf := row_flat (vss := vss) k
          obtain ⟨l, hl⟩ : ∃ l, vss.getD k [] = l := ⟨_, rfl⟩
          have hlm : l ∈ vss := by
            have e : vss.getD k [] = vss[k] := by simp [List.getD, hkl]
            rw [← hl, e]; exact List.getElem_mem hkl
          rw [hl] at hrv hgl hrf
          have hln := hrv.1
          have hn1 : n1 ≤ 128 := by have := HFL.out; omega
          have HRV := Lib.hid (hrv.keep hbw)
          have HLN := Lib.hid hln
          have HGL := Lib.hid hgl
          have HLM := Lib.hid hlm
          have hx0 : sx.data.toList = P ++ lTxt s (l.take 0) := by rw [HX.out]; simp [lTxt]
          have HX0 := Lib.hid hx0
          obtain ⟨wC, hwC⟩ : ∃ wC : World, wC = wr := ⟨_, rfl⟩
          subst hwC
          have hw1 : Below wC.heap.size wC wC := Below.refl _ _
          have hbC' : bC < wC.heap.size := Nat.lt_of_lt_of_le hbC hbw.size
          clear hcc hrv hln hgl hlm hrf hcel0 hl hx0 hkl
          go_wp2
          go_loopw [3, 5, 6, 7, 8] (fun u i _ _ _ wr => ∃ (q : Nat) (sq : ByteArray), q ≤ n1 ∧ i = .int .i64 q ∧ u = .string sq ∧ sq.data.toList = P ++ lTxt s (l.take q) ∧ Below wC.heap.size wC wr) (fun _ i _ _ _ _ => n1 - (intOf i).toNat)
          case atStart => exact ⟨0, sx, by omega, rfl, rfl, HX0.out, hw1⟩
          case round =>
            obtain ⟨q, sq, hq, rfl, rfl, hsq, hbq⟩ := hrel
            have hq0 : (0 : Int) ≤ (q : Int) := Int.natCast_nonneg _
            have j0 := (hbq.cell (p := ⟨w.heap.size, 0, none⟩) klt).trans k0
            have j1 := (hbq.cell (p := ⟨w.heap.size, 1, none⟩) klt).trans k1
            have jcel := (hbq.cell (p := ⟨bC, oC + k, none⟩) hbC').trans hcel
            have hbwq := below_step hbw hbq
            have hqz : sq.size ≤ 2600 := by
              have h1 := lTxt_len s (l.take q) (fun v hv => G.out.small HLM.out (List.mem_of_mem_take hv))
              rw [size_of hsq, List.length_append]
              rw [List.length_take] at h1
              omega
            have HSQ := Lib.hid hsq
            clear hsq
            by_cases hql : q < n1
            · obtain ⟨b1, o1, hAe, hb1, hcv⟩ := (HRV.out.keep hbq).2 (by omega)
              subst hAe
              obtain ⟨z0, z1⟩ := hcv q hql
              have hq1 : (q : Int) < (n1 : Int) := by omega
              have hql2 : q < l.length := by rw [HLN.out]; exact hql
              have hsuc := lTxt_succ s l q hql2
              have hrg := G.out.rng _ (mem_flat HLM.out (getD_mem l q hql2))
              obtain ⟨v, hv⟩ : ∃ v, l.getD q v0 = v := ⟨_, rfl⟩
              rw [hv] at z0 z1 hsuc hrg
              obtain ⟨vc, vo⟩ := v
              simp only at z0 z1 hrg
              obtain ⟨cu, rfl⟩ := Int.eq_ofNat_of_zero_le hrg.1
              have hcu : cu < ns := by have := hrg.2; have := HSL.out; omega
              have hcui : (cu : Int) < (ns : Int) := by omega
              have hcu0 : (0 : Int) ≤ (cu : Int) := Int.natCast_nonneg _
              obtain ⟨bS, oS, hSe, hbS, hcS⟩ := HS.out.2 (by omega)
              subst hSe
              have hsgB := (sgnsB_iff _).1 G.out.sg cu (by rw [HSL.out]; exact hcu)
              have hsg := (hbwq.cell (p := ⟨bS, oS + cu, none⟩) hbS).trans (hcS cu hcu)
              obtain ⟨sg, hsge⟩ : ∃ sg, s.getD cu 0 = sg := ⟨_, rfl⟩
              rw [hsge] at hsg hsgB
              have hsg2 : sg = 1 ∨ sg = -1 := by unfold sgB at hsgB; simpa using hsgB
              have hbX := below_step hbq (below_alloc wr (.cells #[.int .i64 (cu : Nat), .bool vo] 73))
              have hsgX := ((below_alloc wr (.cells #[.int .i64 (cu : Nat), .bool vo] 73)).cell (p := ⟨bS, oS + cu, none⟩) (Nat.lt_of_lt_of_le hbS hbwq.size)).trans hsg
              have j1X := ((below_alloc wr (.cells #[.int .i64 (cu : Nat), .bool vo] 73)).cell (p := ⟨w.heap.size, 1, none⟩) (Nat.lt_of_lt_of_le klt hbq.size)).trans j1
              have hvt : vTxt s ((cu : Int), vo) = [if vo then 79 else 85] ++ Lib.decDigits (cu + 1) ++ [if sg = 1 then 43 else 45] := by
                unfold vTxt; rw [show ((cu : Int)).toNat = cu by omega, hsge]; rfl
              rw [hvt] at hsuc
              have CD : ∀ W : World, Hid (Calls Tryz.prog 60 #[.int .i64 ((cu : Int) + 1)] W fun e w' => ∃ b : ByteArray, e = .returned (.string b) ∧ b.data.toList = Lib.decDigits (cu + 1) ∧ W = w') := fun W => by
                have := decimal_any (cu + 1) (by omega) W
                rw [show ((cu + 1 : Nat) : Int) = (cu : Int) + 1 by omega] at this
                exact this
              have HSUC := Lib.hid hsuc
              have hcu64 : (cu : Int) ≤ 64 := by omega
              clear hcv hv hsuc hrg hcS hsgB hvt hsge hql2
              rcases hsg2 with rfl | rfl <;> cases vo
              all_goals
                go_wp2_with (go_at_call 60; ((with_reducible refine (CD _).out.mono ?_); rintro e w3 ⟨b, rfl, hb, rfl⟩; have hbz := size_dec (by omega) hb; have HB := Lib.hid hb; clear hb))
                go_roundw
                case rel => exact ⟨q + 1, _, by omega, by go_num, rfl, by rw [cat4 HSQ.out HB.out, HSUC.out, List.append_assoc]; rfl, hbX⟩
                case measure => simp [intOf]; omega
            · obtain rfl : q = n1 := by omega
              have htl : l.take q = l := by rw [← HLN.out, List.take_length]
              have hfin : sq.data.toList = Lib.join ((gWords vss s m).take (k + 1)) [32] := by rw [HSQ.out, htl, HJS.out, HGL.out]
              have HFIN := Lib.hid hfin
              have hbR := hbr.trans (hbq.mono hbr.size)
              clear htl hfin hql hq
              go_wp2
              go_roundw
              case rel => exact ⟨k + 1, sq, by omega, by go_num, rfl, HFIN.out, hbR⟩
              case measure => simp [intOf]; omega
        · have hkc1 : (nc : Int) ≤ (k : Int) := by omega
          have hgr := gw_right (vss := vss) (s := s) (m := m) (k := k) (by rw [HCL.out]; omega) (by rw [HCL.out]; omega)
          have HGR := Lib.hid hgr
          clear hgr hkc
          go_wp2
          go_roundw
          case rel => exact ⟨k + 1, _, by omega, by go_num, rfl, by rw [data_append, HX.out, HJS.out, HGR.out], hbr⟩
          case measure => simp [intOf]; omega
    · obtain rfl : k = nc + m := by omega
      have htk : (gWords vss s m).take (nc + m) = gWords vss s m := by rw [← HWL.out, List.take_length]
      rw [htk] at hsb
      have he : sb = ⟨(Lib.join (gWords vss s m) [32]).toArray⟩ := by
        rw [← hsb]
      have HE := Lib.hid he
      have hk1 : ((nc + m : Nat) : Int) = (nc : Int) + (m : Int) := by omega
      clear hsb htk he hlt hk
      go_wp2
      go_ret
      exact ⟨by rw [HE.out]; rfl, hbw⟩

end Go.Proofs.YtdacjnmfmhkpiaaGreatDoor

/- Walk: the law GaussText. -/
namespace Go.Proofs.YtdacjnmfmhkpiaaGreatDoor
open Go.ChangeShapes Go.WideShapes Go.ChangeAt Go.RowKit Go.Joins

theorem flat_le {M : Nat} : ∀ vss : List (List Vis), (∀ j, (vss.getD j []).length ≤ M) → vss.flatten.length ≤ vss.length * M
  | [], _ => by simp
  | l :: vss, h => by
    have h0 : l.length ≤ M := by simpa using h 0
    have h1 := flat_le vss fun j => by simpa using h (j + 1)
    rw [List.flatten_cons, List.length_append, List.length_cons, Nat.add_mul]
    omega
theorem few_all (C S : Option Addr) (nc cc ns cs : Nat) (lp : Int) (vss : List (List Vis)) (w : World) (hC : RVV w C nc vss) (hns : ns ≤ 9223372036854775807) (hnc : nc ≤ 140737488351232) (hll : ∀ j, (vss.getD j []).length ≤ 140737488351232) (r : Bool) (hr : fewB vss ns nc = r) :
    Calls Tryz.prog 24 #[dval C nc cc S ns cs lp] w fun e w' => e = .returned (.bool r) ∧ Below w.heap.size w w' := by
  by_cases h : nc ≤ 28
  · have hf := flat_le vss hll
    rw [hC.1] at hf
    have hf2 : nc * 140737488351232 ≤ 28 * 140737488351232 := Nat.mul_le_mul_right _ h
    have := few_any C S nc cc ns cs lp vss w hC hns (by omega) (by omega)
    rw [hr] at this
    exact this
  · have e : fewB vss ns nc = false := by simp [fewB, h]
    rw [e] at hr
    subst hr
    exact few_big C S nc cc ns cs lp vss w hC (by omega) (by omega)
theorem fewB_out {vss : List (List Vis)} {ns nc : Nat} (h : fewB vss ns nc = true) : ns ≤ 14 ∧ nc ≤ 28 ∧ vss.flatten.length ≤ 42 := by
  unfold fewB at h; simp only [Bool.and_eq_true, decide_eq_true_eq] at h; omega

set_option maxHeartbeats 3200000 in
set_option maxRecDepth 100000 in
theorem text_walk (C S : Option Addr) (nc cc ns cs : Nat) (lp : Int) (vss : List (List Vis)) (s : List Int) (w : World) (hC : RVV w C nc vss) (hS : RI w S ns s) (hns : ns ≤ 9223372036854775807) (hnc : nc ≤ 140737488351232) (hll : ∀ j, (vss.getD j []).length ≤ 140737488351232) (ht : TabW w) :
    Calls Tryz.prog 8 #[dval C nc cc S ns cs lp] w fun e w' => e = .returned (.bool true) ∧ Below w.heap.size w w' := by
  have hd := DB.newT w C nc cc S ns cs lp 28
  have hb0 := below_alloc w (cbox C nc cc S ns cs lp)
  have HTW : ∀ W, Below w.heap.size w W → Hid (Calls Tryz.prog 12 #[] W fun e w' => e = .returned (.bool true) ∧ Below W.heap.size W w') := fun W hb => gawake_any W (ht.keep hb)
  obtain ⟨d0, d1, d2, dlt⟩ := hd
  cases hf : fewB vss ns nc with
  | false =>
    have CF : ∀ W, Below w.heap.size w W → Hid (Calls Tryz.prog 24 #[dval C nc cc S ns cs lp] W fun e w' => e = .returned (.bool false) ∧ Below W.heap.size W w') := fun W hb => few_all C S nc cc ns cs lp vss W (hC.keep hb) hns hnc hll false hf
    clear hf hC hS hns hnc hll ht
    go_enter Tryz.func8, Tryz.ntmps8
    go_wp2_with (first
      | (go_at_call 12; ((with_reducible refine (HTW _ hb02).out.mono ?_); rintro e w3 ⟨rfl, hb3⟩))
      | (go_at_call 12; ((with_reducible refine (HTW _ hb0).out.mono ?_); rintro e w1 ⟨rfl, hb1⟩; have hb01 := below_step hb0 hb1; have e0 := (hb1.cell (p := ⟨w.heap.size, 0, none⟩) dlt).trans d0; have e1 := (hb1.cell (p := ⟨w.heap.size, 1, none⟩) dlt).trans d1; have e2 := (hb1.cell (p := ⟨w.heap.size, 2, none⟩) dlt).trans d2))
      | (go_at_call 24; ((with_reducible refine (CF _ hb01).out.mono ?_); rintro e w2 ⟨rfl, hb2⟩; have hb02 := below_step hb01 hb2)))
    go_ret
    exact ⟨rfl, below_step hb02 hb3⟩
  | true =>
    have CF : ∀ W, Below w.heap.size w W → Hid (Calls Tryz.prog 24 #[dval C nc cc S ns cs lp] W fun e w' => e = .returned (.bool true) ∧ Below W.heap.size W w') := fun W hb => few_all C S nc cc ns cs lp vss W (hC.keep hb) hns hnc hll true hf
    obtain ⟨f1, f2, f3⟩ := fewB_out hf
    have hrl : ∀ j, (vss.getD j []).length ≤ 42 := fun j => by have := row_flat (vss := vss) j; omega
    have CP : ∀ (C S : Option Addr) (cc cs : Nat) (W : World), RVV W C nc vss → Hid (Calls Tryz.prog 16 #[dval C nc cc S ns cs lp] W (PlainPost vss S nc ns cs lp W)) := fun C S cc cs W h =>
      plain_any C S nc cc ns cs lp vss W h (by omega) (fun j => by have := hrl j; omega)
    have CV : ∀ (C S : Option Addr) (cc cs : Nat) (W : World), RVV W C nc vss → RI W S ns s → Hid (Calls Tryz.prog 25 #[dval C nc cc S ns cs lp] W fun e w' => e = .returned (.bool (gvalB vss s lp)) ∧ Below W.heap.size W w') := fun C S cc cs W h1 h2 =>
      rgvalid_any C S nc cc ns cs lp vss s W h1 h2 (by omega) (by omega) (by omega)
    have CFm : ∀ W, Below w.heap.size w W → Hid (Calls Tryz.prog 29 #[dval C nc cc S ns cs lp] W fun e w' => e = .returned (if gvalB vss s lp = true then .tuple #[.string ⟨(gTxt vss s lp).toArray⟩, .int .i64 0] else .tuple #[.string ⟨#[]⟩, .int .i64 1]) ∧ Below W.heap.size W w') := fun W hb =>
      gFormat_any C S nc cc ns cs lp vss s W (hC.keep hb) (hS.keep hb) (by omega) (by omega) (by omega)
    have HC := Lib.hid hC
    have HS := Lib.hid hS
    clear hns hnc hll hf
    cases hv : gvalB vss s lp with
    | false =>
      rw [hv] at CV CFm
      simp only [Bool.false_eq_true, if_false] at CFm
      clear hv ht hC hS hrl f1 f2 f3
      go_enter Tryz.func8, Tryz.ntmps8
      go_wp2_with (first
        | (go_at_call 12; ((with_reducible refine (HTW _ hb0).out.mono ?_); rintro e w1 ⟨rfl, hb1⟩; have hb01 := below_step hb0 hb1; have e0 := (hb1.cell (p := ⟨w.heap.size, 0, none⟩) dlt).trans d0; have e1 := (hb1.cell (p := ⟨w.heap.size, 1, none⟩) dlt).trans d1; have e2 := (hb1.cell (p := ⟨w.heap.size, 2, none⟩) dlt).trans d2; have elt := Nat.lt_of_lt_of_le dlt hb1.size))
        | (go_at_call 24; ((with_reducible refine (CF _ hb01).out.mono ?_); rintro e w2 ⟨rfl, hb2⟩; have hb02 := below_step hb01 hb2; have g0 := (hb2.cell (p := ⟨w.heap.size, 0, none⟩) elt).trans e0; have g1 := (hb2.cell (p := ⟨w.heap.size, 1, none⟩) elt).trans e1; have g2 := (hb2.cell (p := ⟨w.heap.size, 2, none⟩) elt).trans e2; have glt := Nat.lt_of_lt_of_le elt hb2.size))
        | (go_at_call 29; ((with_reducible refine (CFm _ hb02).out.mono ?_); rintro e w3 ⟨rfl, hb3⟩; have hb03 := below_step hb02 hb3; have i0 := (hb3.cell (p := ⟨w.heap.size, 0, none⟩) glt).trans g0; have i1 := (hb3.cell (p := ⟨w.heap.size, 1, none⟩) glt).trans g1; have i2 := (hb3.cell (p := ⟨w.heap.size, 2, none⟩) glt).trans g2))
        | (go_at_call 16; ((with_reducible refine (CP C S cc cs _ (HC.out.keep hb03)).out.mono ?_); rintro e w4 ⟨A4, c4, rfl, hR4, hb4⟩; have hb04 := below_step hb03 hb4))
        | (go_at_call 25; ((with_reducible refine (CV A4 S c4 cs _ hR4 (HS.out.keep hb04)).out.mono ?_); rintro e w5 ⟨rfl, hb5⟩)))
      go_ret
      exact ⟨rfl, below_step hb04 hb5⟩
    | true =>
      have G := gv_facts hv
      obtain ⟨m, hm⟩ := Int.eq_ofNat_of_zero_le G.lp0
      subst hm
      have hsl : s.length = ns := hS.1
      have CPa : ∀ W, Below w.heap.size w W → Hid (Calls Tryz.prog 30 #[.string ⟨(gTxt vss s (m : Int)).toArray⟩] W fun e w' => ∃ C cc S cs, e = .returned (.tuple #[dval C nc cc S ns cs (m : Int), .int .i64 0]) ∧ RVV w' C nc vss ∧ RI w' S ns s ∧ Below W.heap.size W w') := fun W hb => by
        have h := parse_code m ns vss s W hv hsl (ht.keep hb)
        unfold ParsePost at h
        rw [hC.1] at h
        exact h
      have CRF : ∀ (C S : Option Addr) (cc cs : Nat) (W : World), RVV W C nc vss → RI W S ns s → Hid (Calls Tryz.prog 31 #[dval C nc cc S ns cs (m : Int)] W fun e w' => e = .returned (.string ⟨(gTxt vss s (m : Int)).toArray⟩) ∧ Below W.heap.size W w') := fun C S cc cs W h1 h2 =>
        rformat_any C S nc cc ns cs m vss s W h1 h2 hv
      have CS : ∀ (C S C' S' : Option Addr) (cc cs1 cc' cs' : Nat) (W : World), RVV W C nc vss → RI W S ns s → RVV W C' nc vss → RI W S' ns s → Hid (Calls Tryz.prog 15 #[dval C nc cc S ns cs1 (m : Int), dval C' nc cc' S' ns cs' (m : Int)] W fun e w' => e = .returned (.bool true) ∧ Below W.heap.size W w') := fun C S C' S' cc cs1 cc' cs' W h1 h2 h3 h4 =>
        same_true C S C' S' nc cc ns cs1 cc' cs' (m : Int) vss s W h1 h2 h3 h4 (by omega) (by omega) (fun j => by have := hrl j; omega)
      rw [hv] at CV CFm
      simp only [if_true] at CFm
      have hb0' := hb0
      obtain ⟨sb, hsb⟩ : ∃ sb : ByteArray, sb = ⟨(gTxt vss s (m : Int)).toArray⟩ := ⟨_, rfl⟩
      rw [← hsb] at CFm CPa CRF
      clear hv ht hC hS hrl f1 f2 f3 G hsl hsb
      go_enter Tryz.func8, Tryz.ntmps8
      go_upto_region 7 with (first
        | (go_at_call 12; ((with_reducible refine (HTW _ hb0).out.mono ?_); rintro e w1 ⟨rfl, hb1⟩; have hb01 := below_step hb0 hb1; have e0 := (hb1.cell (p := ⟨w.heap.size, 0, none⟩) dlt).trans d0; have e1 := (hb1.cell (p := ⟨w.heap.size, 1, none⟩) dlt).trans d1; have e2 := (hb1.cell (p := ⟨w.heap.size, 2, none⟩) dlt).trans d2; have elt := Nat.lt_of_lt_of_le dlt hb1.size))
        | (go_at_call 24; ((with_reducible refine (CF _ hb01).out.mono ?_); rintro e w2 ⟨rfl, hb2⟩; have hb02 := below_step hb01 hb2; have g0 := (hb2.cell (p := ⟨w.heap.size, 0, none⟩) elt).trans e0; have g1 := (hb2.cell (p := ⟨w.heap.size, 1, none⟩) elt).trans e1; have g2 := (hb2.cell (p := ⟨w.heap.size, 2, none⟩) elt).trans e2; have glt := Nat.lt_of_lt_of_le elt hb2.size))
        | (go_at_call 29; ((with_reducible refine (CFm _ hb02).out.mono ?_); rintro e w3 ⟨rfl, hb3⟩; have hb03 := below_step hb02 hb3; have i0 := (hb3.cell (p := ⟨w.heap.size, 0, none⟩) glt).trans g0; have i1 := (hb3.cell (p := ⟨w.heap.size, 1, none⟩) glt).trans g1; have i2 := (hb3.cell (p := ⟨w.heap.size, 2, none⟩) glt).trans g2; have ilt := Nat.lt_of_lt_of_le glt hb3.size))
        | (go_at_call 16; ((with_reducible refine (CP C S cc cs _ (HC.out.keep hb03)).out.mono ?_); rintro e w4 ⟨A4, c4, rfl, hR4, hb4⟩; have hb04 := below_step hb03 hb4; have j0 := (hb4.cell (p := ⟨w.heap.size, 0, none⟩) ilt).trans i0; have j1 := (hb4.cell (p := ⟨w.heap.size, 1, none⟩) ilt).trans i1; have j2 := (hb4.cell (p := ⟨w.heap.size, 2, none⟩) ilt).trans i2; have jlt := Nat.lt_of_lt_of_le ilt hb4.size))
        | (go_at_call 25; ((with_reducible refine (CV A4 S c4 cs _ hR4 (HS.out.keep hb04)).out.mono ?_); rintro e w5 ⟨rfl, hb5⟩; have hb05 := below_step hb04 hb5; have k0 := (hb5.cell (p := ⟨w.heap.size, 0, none⟩) jlt).trans j0; have k1 := (hb5.cell (p := ⟨w.heap.size, 1, none⟩) jlt).trans j1; have k2 := (hb5.cell (p := ⟨w.heap.size, 2, none⟩) jlt).trans j2; have klt := Nat.lt_of_lt_of_le jlt hb5.size))
        | (go_at_call 30; ((with_reducible refine (CPa _ hb05).out.mono ?_); rintro e w6 ⟨K, kc, L, lc, rfl, hK, hL, hb6⟩; have hb6' := below_step hb6 (below_alloc w6 (cbox K nc kc L ns lc (m : Int))); have hb06 := below_step hb05 hb6'; have l0 := (hb6'.cell (p := ⟨w.heap.size, 0, none⟩) klt).trans k0; have l1 := (hb6'.cell (p := ⟨w.heap.size, 1, none⟩) klt).trans k1; have l2 := (hb6'.cell (p := ⟨w.heap.size, 2, none⟩) klt).trans k2; have llt := Nat.lt_of_lt_of_le klt hb6'.size; have HX := DB.newT w6 K nc kc L ns lc (m : Int) 28; have hK6 := hK.keep (below_alloc w6 (cbox K nc kc L ns lc (m : Int))); have hL6 := hL.keep (below_alloc w6 (cbox K nc kc L ns lc (m : Int))))))
      obtain ⟨x0, x1, x2, xlt⟩ := HX
      obtain ⟨gX, hgX⟩ : ∃ gX, w6.heap.size = gX := ⟨_, rfl⟩
      rw [hgX] at x0 x1 x2 xlt ⊢
      generalize w6.alloc (cbox K nc kc L ns lc (m : Int)) = wX at *
      have hbD : Below wX.heap.size wX wX.drew := (Below.refl _ _).drew
      have HK := Lib.hid hK6
      have HL := Lib.hid hL6
      have HCX := Lib.hid (HC.out.keep hb06)
      have HSX := Lib.hid (HS.out.keep hb06)
      clear hgX hK hL hK6 hL6 hb1 hb2 hb3 hb4 hb5 hb6 hb6' d0 d1 d2 e0 e1 e2 g0 g1 g2 i0 i1 i2 j0 j1 j2 k0 k1 k2 hb01 hb02 hb03 hb04 hb05 hb0 klt jlt ilt glt elt dlt hR4 CF CFm CV CPa HTW
      go_region_held3 (fun w' => (w'.cell? ⟨w.heap.size, 0, none⟩ = some (.slice C nc cc) ∧ w'.cell? ⟨w.heap.size, 1, none⟩ = some (.slice S ns cs) ∧ w'.cell? ⟨w.heap.size, 2, none⟩ = some (.int .i64 (m : Int))) ∧ (w'.cell? ⟨gX, 0, none⟩ = some (.slice K nc kc) ∧ w'.cell? ⟨gX, 1, none⟩ = some (.slice L ns lc) ∧ w'.cell? ⟨gX, 2, none⟩ = some (.int .i64 (m : Int))))
        (first
          | go_keep
          | exact ⟨⟨(zz11.cell (p := ⟨w.heap.size, 0, none⟩) llt).trans l0, (zz11.cell (p := ⟨w.heap.size, 1, none⟩) llt).trans l1, (zz11.cell (p := ⟨w.heap.size, 2, none⟩) llt).trans l2⟩, ⟨(zz11.cell (p := ⟨gX, 0, none⟩) xlt).trans x0, (zz11.cell (p := ⟨gX, 1, none⟩) xlt).trans x1, (zz11.cell (p := ⟨gX, 2, none⟩) xlt).trans x2⟩⟩
          | exact ⟨⟨(zz10.cell (p := ⟨w.heap.size, 0, none⟩) llt).trans l0, (zz10.cell (p := ⟨w.heap.size, 1, none⟩) llt).trans l1, (zz10.cell (p := ⟨w.heap.size, 2, none⟩) llt).trans l2⟩, ⟨(zz10.cell (p := ⟨gX, 0, none⟩) xlt).trans x0, (zz10.cell (p := ⟨gX, 1, none⟩) xlt).trans x1, (zz10.cell (p := ⟨gX, 2, none⟩) xlt).trans x2⟩⟩
          | exact ⟨⟨(zz9.cell (p := ⟨w.heap.size, 0, none⟩) llt).trans l0, (zz9.cell (p := ⟨w.heap.size, 1, none⟩) llt).trans l1, (zz9.cell (p := ⟨w.heap.size, 2, none⟩) llt).trans l2⟩, ⟨(zz9.cell (p := ⟨gX, 0, none⟩) xlt).trans x0, (zz9.cell (p := ⟨gX, 1, none⟩) xlt).trans x1, (zz9.cell (p := ⟨gX, 2, none⟩) xlt).trans x2⟩⟩
          | exact ⟨⟨(zz8.cell (p := ⟨w.heap.size, 0, none⟩) llt).trans l0, (zz8.cell (p := ⟨w.heap.size, 1, none⟩) llt).trans l1, (zz8.cell (p := ⟨w.heap.size, 2, none⟩) llt).trans l2⟩, ⟨(zz8.cell (p := ⟨gX, 0, none⟩) xlt).trans x0, (zz8.cell (p := ⟨gX, 1, none⟩) xlt).trans x1, (zz8.cell (p := ⟨gX, 2, none⟩) xlt).trans x2⟩⟩
          | exact ⟨⟨(zz7.cell (p := ⟨w.heap.size, 0, none⟩) llt).trans l0, (zz7.cell (p := ⟨w.heap.size, 1, none⟩) llt).trans l1, (zz7.cell (p := ⟨w.heap.size, 2, none⟩) llt).trans l2⟩, ⟨(zz7.cell (p := ⟨gX, 0, none⟩) xlt).trans x0, (zz7.cell (p := ⟨gX, 1, none⟩) xlt).trans x1, (zz7.cell (p := ⟨gX, 2, none⟩) xlt).trans x2⟩⟩)
        (first
          | (go_at_call 15; ((with_reducible refine (CS _ _ _ _ _ _ _ _ _ (hR9.keep hb10) (HL.out.keep zz10) hR10 (HSX.out.keep zz10)).out.mono ?_); rintro e w11 ⟨rfl, hb11⟩; have zz11 := below_step zz10 hb11))
          | (go_at_call 16; ((with_reducible refine (CP C S cc cs _ (HCX.out.keep zz9)).out.mono ?_); rintro e w10 ⟨A10, c10, rfl, hR10, hb10⟩; have zz10 := below_step zz9 hb10))
          | (go_at_call 16; ((with_reducible refine (CP K L kc lc _ (HK.out.keep zz8)).out.mono ?_); rintro e w9 ⟨A9, c9, rfl, hR9, hb9⟩; have zz9 := below_step zz8 hb9))
          | (go_at_call 31; ((with_reducible refine (CRF A7 S c7 cs _ hR7 (HSX.out.keep zz7)).out.mono ?_); rintro e w8 ⟨rfl, hb8⟩; have zz8 := below_step zz7 hb8))
          | (go_at_call 16; ((with_reducible refine (CP C S cc cs _ (HCX.out.keep hbD)).out.mono ?_); rintro e w7 ⟨A7, c7, rfl, hR7, hb7⟩; have zz7 := below_step hbD hb7)))
      go_wp2
      go_ret
      exact ⟨rfl, below_step hb06 zz11⟩

end Go.Proofs.YtdacjnmfmhkpiaaGreatDoor
