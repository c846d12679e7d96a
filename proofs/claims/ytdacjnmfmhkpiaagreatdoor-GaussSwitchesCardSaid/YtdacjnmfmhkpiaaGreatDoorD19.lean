import Derived.Test.YtdacjnmfmhkpiaaGreatDoorD18
import Derived.Test.YtdacjnmfmhkpiaaGreatDoorD16
import Derived.Test.YtdacjnmfmhkpiaaGreatDoorD17
import Derived.Lib.SmallJoins
import Derived.Deep.DeepCutAuto
/- Walks: the reference's count and Valid. -/
namespace Go.Proofs.YtdacjnmfmhkpiaaGreatDoor
open Go.RowKit

set_option maxHeartbeats 600000 in
set_option maxRecDepth 100000 in
theorem count_any (C S : Option Addr) (nc cc ns cs : Nat) (lp : Int) (vss : List (List Vis)) (x : Int) (o : Bool) (w : World) (hC : RVV w C nc vss) (hnc : nc ≤ 1000000) (hfl : vss.flatten.length ≤ 1000000) :
    Calls Tryz.prog 52 #[dval C nc cc S ns cs lp, .int .i64 x, .bool o] w fun e w' => e = .returned (.int .i64 (gcnt vss.flatten (x, o) : Nat)) ∧ Below w.heap.size w w' := by
  have hd := DB.newT w C nc cc S ns cs lp 36
  have hb0 := below_alloc w (.cells #[.slice C nc cc, .slice S ns cs, .int .i64 lp] 36)
  have HC := Lib.hid hC
  have HCL := Lib.hid hC.1
  have HFL := Lib.hid hfl
  clear hC hfl
  go_enter Tryz.func52, Tryz.ntmps52
  go_upto_region 1 with fail
  generalize w.alloc (.cells #[.slice C nc cc, .slice S ns cs, .int .i64 lp] 36) = wA at *
  obtain ⟨d0, d1, d2, dlt⟩ := hd
  have hw0 : Below wA.heap.size wA wA := Below.refl _ _
  go_wp2
  go_loopw [7, 8, 9, 10] (fun s i _ _ wr => ∃ k : Nat, k ≤ nc ∧ i = .int .i64 k ∧ s = .int .i64 (gcnt (vss.take k).flatten (x, o) : Nat) ∧ Below wA.heap.size wA wr) (fun _ i _ _ _ => nc - (intOf i).toNat)
  case atStart => exact ⟨0, by omega, rfl, rfl, hw0⟩
  case round =>
    obtain ⟨k, hk, rfl, rfl, hbr⟩ := hrel
    have hk0 : (0 : Int) ≤ (k : Int) := Int.natCast_nonneg _
    have k0 := (hbr.cell (p := ⟨w.heap.size, 0, none⟩) dlt).trans d0
    by_cases hlt : k < nc
    · obtain ⟨bC, oC, hCe, hbC, hcc⟩ := HC.out.2 (by omega)
      subst hCe
      obtain ⟨A1, n1, c1, hcel0, hrv⟩ := hcc k hlt
      have hbw := below_step hb0 hbr
      have hcel := (hbw.cell (p := ⟨bC, oC + k, none⟩) hbC).trans hcel0
      have hk1 : (k : Int) < (nc : Int) := by omega
      have hkl : k < vss.length := by rw [HCL.out]; exact hlt
      have hfs := flat_take_succ hkl
      have hln := hrv.1
      have hle : (vss.take (k + 1)).flatten.length ≤ 1000000 := by
        have e3 : vss.flatten = (vss.take (k + 1)).flatten ++ (vss.drop (k + 1)).flatten := by rw [← List.flatten_append, List.take_append_drop]
        have := HFL.out
        rw [e3, List.length_append] at this
        omega
      obtain ⟨l, hl⟩ : ∃ l, vss.getD k [] = l := ⟨_, rfl⟩
      rw [hl] at hrv hfs hln
      obtain ⟨F, hF⟩ : ∃ F, (vss.take k).flatten = F := ⟨_, rfl⟩
      rw [hF] at hfs ⊢
      rw [hfs, List.length_append, hln] at hle
      have HFS := Lib.hid hfs
      have HRV := Lib.hid (hrv.keep hbw)
      have HLN := Lib.hid hln
      have hF0 : F ++ l.take 0 = F := by simp
      have HF0 := Lib.hid hF0
      have hgF := gcnt_le F (x, o)
      obtain ⟨wC, hwC⟩ : ∃ wC : World, wC = wr := ⟨_, rfl⟩
      subst hwC
      have hw1 : Below wC.heap.size wC wC := Below.refl _ _
      have clt : w.heap.size < wC.heap.size := Nat.lt_of_lt_of_le dlt hbr.size
      have hbC' : bC < wC.heap.size := Nat.lt_of_lt_of_le hbC hbw.size
      clear hcc hrv hfs hln hcel0 hl hF hF0 hbw
      go_wp2
      go_loopw [7, 9, 10] (fun s i _ wr => ∃ q : Nat, q ≤ n1 ∧ i = .int .i64 q ∧ s = .int .i64 (gcnt (F ++ l.take q) (x, o) : Nat) ∧ Below wC.heap.size wC wr) (fun _ i _ _ => n1 - (intOf i).toNat)
      case atStart => exact ⟨0, by omega, rfl, by rw [HF0.out], hw1⟩
      case round =>
        obtain ⟨q, hq, rfl, rfl, hbq⟩ := hrel
        have hq0 : (0 : Int) ≤ (q : Int) := Int.natCast_nonneg _
        have j0 := (hbq.cell (p := ⟨w.heap.size, 0, none⟩) clt).trans k0
        have jcel := (hbq.cell (p := ⟨bC, oC + k, none⟩) hbC').trans hcel
        by_cases hql : q < n1
        · obtain ⟨b1, o1, hAe, hb1, hcv⟩ := (HRV.out.keep hbq).2 (by omega)
          subst hAe
          obtain ⟨z0, z1⟩ := hcv q hql
          have hq1 : (q : Int) < (n1 : Int) := by omega
          have htk := take_succ_getD l v0 q (by rw [HLN.out]; exact hql)
          obtain ⟨v, hv⟩ : ∃ v, l.getD q v0 = v := ⟨_, rfl⟩
          rw [hv] at z0 z1 htk
          have hsn := gcnt_snoc (F ++ l.take q) v (x, o)
          rw [List.append_assoc, ← htk] at hsn
          have hgl := gcnt_le (F ++ l.take q) (x, o)
          rw [List.length_append, List.length_take] at hgl
          obtain ⟨vc, vo⟩ := v
          simp only at z0 z1 hsn
          obtain ⟨G, hG⟩ : ∃ G, gcnt (F ++ l.take q) (x, o) = G := ⟨_, rfl⟩
          rw [hG] at hsn hgl ⊢
          have hGle : G ≤ 2000000 := by omega
          have hG0 : (0 : Int) ≤ (G : Int) := Int.natCast_nonneg _
          have hbX := below_step hbq (below_alloc wr (.cells #[.int .i64 vc, .bool vo] 73))
          have HSN := Lib.hid hsn
          clear hsn hG hgl htk hcv hv
          by_cases e1 : vc = x
          · subst e1
            by_cases e2 : vo = o
            · subst e2
              go_wp2
              go_roundw
              case rel => exact ⟨q + 1, by omega, by go_num, by rw [HSN.out, if_pos ⟨rfl, rfl⟩]; go_num, hbX⟩
              case measure => simp [intOf]; omega
            · have hne : (vo == o) = false := by simpa using e2
              have E2 := Lib.hid e2
              clear e2
              go_wp2
              go_roundw
              case rel => exact ⟨q + 1, by omega, by go_num, by rw [HSN.out, if_neg (fun h => E2.out h.2)]; rfl, hbX⟩
              case measure => simp [intOf]; omega
          · have hne : (vc == x) = false := by simpa using e1
            have E1 := Lib.hid e1
            clear e1
            go_wp2
            go_roundw
            case rel => exact ⟨q + 1, by omega, by go_num, by rw [HSN.out, if_neg (fun h => E1.out h.1)]; rfl, hbX⟩
            case measure => simp [intOf]; omega
        · obtain rfl : q = n1 := by omega
          have htl : l.take q = l := by rw [← HLN.out, List.take_length]
          rw [htl, ← HFS.out]
          have hbR := hbr.trans (hbq.mono hbr.size)
          clear htl hql hq
          go_wp2
          go_roundw
          case rel => exact ⟨k + 1, by omega, by go_num, rfl, hbR⟩
          case measure => simp [intOf]; omega
    · obtain rfl : k = nc := by omega
      have htk : vss.take k = vss := by rw [← HCL.out, List.take_length]
      rw [htk]
      have hbF := below_step hb0 hbr
      clear htk hlt hk
      go_wp2
      go_ret
      exact ⟨rfl, hbF⟩

set_option maxHeartbeats 600000 in
set_option maxRecDepth 100000 in
theorem rgvalid_any (C S : Option Addr) (nc cc ns cs : Nat) (lp : Int) (vss : List (List Vis)) (s : List Int) (w : World) (hC : RVV w C nc vss) (hS : RI w S ns s) (hns : ns ≤ 1000000) (hnc : nc ≤ 1000000) (hfl : vss.flatten.length ≤ 1000000) :
    Calls Tryz.prog 25 #[dval C nc cc S ns cs lp] w fun e w' => e = .returned (.bool (gvalB vss s lp)) ∧ Below w.heap.size w w' := by
  have hd := DB.newT w C nc cc S ns cs lp 36
  have hb0 := below_alloc w (.cells #[.slice C nc cc, .slice S ns cs, .int .i64 lp] 36)
  have hg : gvalB vss s lp = (glimB ns lp && sgnsB s && visB vss ns) := by unfold gvalB; rw [hS.1]
  have CC : ∀ (x : Int) (o : Bool) (W : World), Below w.heap.size w W → Hid (Calls Tryz.prog 52 #[dval C nc cc S ns cs lp, .int .i64 x, .bool o] W fun e w' => e = .returned (.int .i64 (gcnt vss.flatten (x, o) : Nat)) ∧ Below W.heap.size W w') := fun x o W hb =>
    count_any C S nc cc ns cs lp vss x o W (hC.keep hb) hnc hfl
  have HC := Lib.hid hC
  have HS := Lib.hid hS
  have HCL := Lib.hid hC.1
  have HSL := Lib.hid hS.1
  have HFL := Lib.hid hfl
  have HG := Lib.hid hg
  clear hC hS hfl hg
  obtain ⟨d0, d1, d2, dlt⟩ := hd
  by_cases h1 : ns ≤ 64
  · have h1' : (ns : Int) ≤ 64 := by omega
    by_cases h2 : 0 ≤ lp
    · by_cases h3 : lp ≤ 64
      · have hgl : glimB ns lp = true := by simp [glimB, h1, h2, h3]
        have HGL := Lib.hid hgl
        clear hgl
        go_enter Tryz.func25, Tryz.ntmps25
        go_upto_region 1 with fail
        generalize w.alloc (.cells #[.slice C nc cc, .slice S ns cs, .int .i64 lp] 36) = wA at *
        go_wp2
        go_loop [4, 5] (fun s i => ∃ k : Nat, k ≤ nc ∧ i = .int .i64 k ∧ s = .int .i64 ((vss.take k).flatten.length : Nat) ∧ Rows0 vss k) (fun _ i => nc - (intOf i).toNat)
        case atStart => exact ⟨0, by omega, rfl, rfl, fun j hj => by omega⟩
        case round =>
          obtain ⟨k, hk, rfl, rfl, hr0⟩ := hrel
          have hk0 : (0 : Int) ≤ (k : Int) := Int.natCast_nonneg _
          by_cases hlt : k < nc
          · obtain ⟨bC, oC, hCe, hbC, hcc⟩ := HC.out.2 (by omega)
            subst hCe
            obtain ⟨A1, n1, c1, hcel0, hrv⟩ := hcc k hlt
            have hcel := (hb0.cell (p := ⟨bC, oC + k, none⟩) hbC).trans hcel0
            have hk1 : (k : Int) < (nc : Int) := by omega
            have hkl : k < vss.length := by rw [HCL.out]; exact hlt
            have hfs := flat_take_succ hkl
            have hln := hrv.1
            have hlen : (vss.take (k + 1)).flatten.length = (vss.take k).flatten.length + n1 := by rw [hfs, List.length_append, hln]
            have hle : (vss.take (k + 1)).flatten.length ≤ 1000000 := by
              have e3 : vss.flatten = (vss.take (k + 1)).flatten ++ (vss.drop (k + 1)).flatten := by rw [← List.flatten_append, List.take_append_drop]
              have := HFL.out
              rw [e3, List.length_append] at this
              omega
            rw [hlen] at hle
            have HLEN := Lib.hid hlen
            have HR0 := Lib.hid hr0
            have HLN := Lib.hid hln
            have HKL := Lib.hid hkl
            generalize (vss.take k).flatten.length = T at *
            have hT0 : (0 : Int) ≤ (T : Int) := Int.natCast_nonneg _
            clear hcc hrv hfs hln hlen hcel0 hr0 hkl
            by_cases hz : n1 = 0
            · subst hz
              have hF : visB vss ns = false := visB_empty HKL.out (List.length_eq_zero_iff.1 HLN.out)
              have HF := Lib.hid (show gvalB vss s lp = false by rw [HG.out, hF, Bool.and_false])
              clear hF
              go_wp2
              go_ret
              exact ⟨ret_bool HF.out.symm, hb0⟩
            · have hz1 : ((n1 : Int) == 0) = false := by simp; omega
              have hR1 : Rows0 vss (k + 1) := fun j hj => by
                by_cases e : j < k
                · exact HR0.out j e
                · obtain rfl : j = k := by omega
                  intro e2
                  have := HLN.out
                  rw [e2] at this
                  exact hz this.symm
              have HR1 := Lib.hid hR1
              clear hR1 hz
              go_wp2
              go_round
              case rel => exact ⟨k + 1, by omega, by go_num, by rw [HLEN.out]; go_num, HR1.out⟩
              case measure => simp [intOf]; omega
          · obtain rfl : k = nc := by omega
            have htk : vss.take k = vss := by rw [← HCL.out, List.take_length]
            rw [htk]
            have HR0 : Hid (∀ j, j < vss.length → vss.getD j [] ≠ []) := Lib.hid fun j hj => hr0 j (by rw [← HCL.out]; exact hj)
            obtain ⟨T, hT⟩ : ∃ T, vss.flatten.length = T := ⟨_, rfl⟩
            have hTl : T ≤ 1000000 := by rw [← hT]; exact HFL.out
            rw [hT]
            have HT := Lib.hid hT
            have hT0 : (0 : Int) ≤ (T : Int) := Int.natCast_nonneg _
            clear htk hlt hk hr0 hT
            have hw0 : Below wA.heap.size wA wA := Below.refl _ _
            go_wp2
            go_loopw [6] (fun i wr => ∃ x : Nat, x ≤ ns ∧ i = .int .i64 x ∧ Below wA.heap.size wA wr ∧ (∀ j, j < x → sgB (s.getD j 0) = true ∧ gcnt vss.flatten ((j : Int), true) = 1 ∧ gcnt vss.flatten ((j : Int), false) = 1)) (fun i _ => ns - (intOf i).toNat)
            case atStart => exact ⟨0, by omega, rfl, hw0, fun j hj => by omega⟩
            case round =>
              obtain ⟨x, hx, rfl, hbr, hall⟩ := hrel
              have hx0 : (0 : Int) ≤ (x : Int) := Int.natCast_nonneg _
              have hbw := below_step hb0 hbr
              have j0 := (hbr.cell (p := ⟨w.heap.size, 0, none⟩) dlt).trans d0
              have j1 := (hbr.cell (p := ⟨w.heap.size, 1, none⟩) dlt).trans d1
              have j2 := (hbr.cell (p := ⟨w.heap.size, 2, none⟩) dlt).trans d2
              have jlt := Nat.lt_of_lt_of_le dlt hbr.size
              have HALL := Lib.hid hall
              clear hall
              by_cases hxl : x < ns
              · have hx1 : (x : Int) < (ns : Int) := by omega
                obtain ⟨bS, oS, hSe, hbS, hcS⟩ := HS.out.2 (by omega)
                subst hSe
                have z0 := (hbw.cell (p := ⟨bS, oS + x, none⟩) hbS).trans (hcS x hxl)
                obtain ⟨sg, hsg⟩ : ∃ sg, s.getD x 0 = sg := ⟨_, rfl⟩
                rw [hsg] at z0
                have HSG := Lib.hid hsg
                clear hcS hsg
                by_cases hs1 : sg = 1 ∨ sg = -1
                · have hsB : sgB sg = true := by unfold sgB; rcases hs1 with rfl | rfl <;> rfl
                  have HSB := Lib.hid hsB
                  have CT := CC (x : Int) true wr hbw
                  obtain ⟨T1, hT1⟩ : ∃ T1, gcnt vss.flatten ((x : Int), true) = T1 := ⟨_, rfl⟩
                  obtain ⟨T2, hT2⟩ : ∃ T2, gcnt vss.flatten ((x : Int), false) = T2 := ⟨_, rfl⟩
                  rw [hT1] at CT
                  have CF : ∀ W, Below w.heap.size w W → Hid (Calls Tryz.prog 52 #[dval C k cc (some ⟨bS, oS, none⟩) ns cs lp, .int .i64 (x : Int), .bool false] W fun e w' => e = .returned (.int .i64 (T2 : Nat)) ∧ Below W.heap.size W w') := fun W hb => by
                    have := CC (x : Int) false W hb
                    rw [hT2] at this
                    exact this
                  have HT1 := Lib.hid hT1
                  have HT2 := Lib.hid hT2
                  clear hT1 hT2 hsB CC
                  by_cases t1 : T1 = 1
                  · subst t1
                    by_cases t2 : T2 = 1
                    · subst t2
                      have HNX : Hid (∀ j, j < x + 1 → sgB (s.getD j 0) = true ∧ gcnt vss.flatten ((j : Int), true) = 1 ∧ gcnt vss.flatten ((j : Int), false) = 1) := Lib.hid fun j hj => by
                        by_cases e : j < x
                        · exact HALL.out j e
                        · obtain rfl : j = x := by omega
                          exact ⟨by rw [HSG.out]; exact HSB.out, HT1.out, HT2.out⟩
                      rcases hs1 with rfl | rfl
                      all_goals
                        go_wp2_with (first
                          | (go_at_call 52; ((with_reducible refine (CF _ hbw2).out.mono ?_); rintro e w3 ⟨rfl, hb3⟩))
                          | (go_at_call 52; ((with_reducible refine CT.out.mono ?_); rintro e w2 ⟨rfl, hb2⟩; have hbw2 := below_step hbw hb2; have i0 := (hb2.cell (p := ⟨w.heap.size, 0, none⟩) jlt).trans j0; have i1 := (hb2.cell (p := ⟨w.heap.size, 1, none⟩) jlt).trans j1; have i2 := (hb2.cell (p := ⟨w.heap.size, 2, none⟩) jlt).trans j2)))
                        go_roundw
                        case rel => exact ⟨x + 1, by omega, by go_num, hbr.trans ((hb2.trans (hb3.mono hb2.size)).mono hbr.size), HNX.out⟩
                        case measure => simp [intOf]; omega
                    · have hne : ((T2 : Int) != 1) = true := by simp only [bne_iff_ne, ne_eq]; omega
                      have HF := Lib.hid (show gvalB vss s lp = false by rw [HG.out, visB_not hxl false (by rw [HT2.out]; exact t2), Bool.and_false])
                      clear t2
                      rcases hs1 with rfl | rfl
                      all_goals
                        go_wp2_with (first
                          | (go_at_call 52; ((with_reducible refine (CF _ hbw2).out.mono ?_); rintro e w3 ⟨rfl, hb3⟩))
                          | (go_at_call 52; ((with_reducible refine CT.out.mono ?_); rintro e w2 ⟨rfl, hb2⟩; have hbw2 := below_step hbw hb2; have i0 := (hb2.cell (p := ⟨w.heap.size, 0, none⟩) jlt).trans j0; have i1 := (hb2.cell (p := ⟨w.heap.size, 1, none⟩) jlt).trans j1; have i2 := (hb2.cell (p := ⟨w.heap.size, 2, none⟩) jlt).trans j2)))
                        go_ret
                        exact ⟨ret_bool HF.out.symm, below_step hbw2 hb3⟩
                  · have hne : ((T1 : Int) != 1) = true := by simp only [bne_iff_ne, ne_eq]; omega
                    have HF := Lib.hid (show gvalB vss s lp = false by rw [HG.out, visB_not hxl true (by rw [HT1.out]; exact t1), Bool.and_false])
                    clear t1
                    rcases hs1 with rfl | rfl
                    all_goals
                      go_wp2_with (go_at_call 52; ((with_reducible refine CT.out.mono ?_); rintro e w2 ⟨rfl, hb2⟩))
                      go_ret
                      exact ⟨ret_bool HF.out.symm, below_step hbw hb2⟩
                · have hn1 : (sg != 1) = true := by simp only [bne_iff_ne, ne_eq]; omega
                  have hn2 : (sg != -1) = true := by simp only [bne_iff_ne, ne_eq]; omega
                  have hsB : sgnsB s = false := by
                    cases h : sgnsB s with
                    | false => rfl
                    | true =>
                      have := (sgnsB_iff _).1 h x (by rw [HSL.out]; exact hxl)
                      rw [HSG.out] at this
                      unfold sgB at this
                      simp at this
                      omega
                  have HF := Lib.hid (show gvalB vss s lp = false by rw [HG.out, hsB, Bool.and_false, Bool.false_and])
                  clear hsB hs1
                  go_wp2
                  go_ret
                  exact ⟨ret_bool HF.out.symm, hbw⟩
              · obtain rfl : x = ns := by omega
                have hsB : sgnsB s = true := (sgnsB_iff _).2 fun j hj => (HALL.out j (by rw [← HSL.out]; exact hj)).1
                have hvB := visB_count (n := x) HR0.out (fun j hj => (HALL.out j hj).2)
                rw [HT.out] at hvB
                have HF := Lib.hid (show gvalB vss s lp = decide (T = 2 * x) by rw [HG.out, hsB, HGL.out, hvB]; rfl)
                clear hsB hvB CC
                by_cases hT2 : T = 2 * x
                · have hTe : (T : Int) = 2 * (x : Int) := by omega
                  have hTb : ((T : Int) == 2 * (x : Int)) = true := by rw [hTe]; simp
                  have HTE := Lib.hid hT2
                  clear hTe hT2
                  go_wp2
                  go_ret
                  exact ⟨ret_bool (by rw [HF.out, decide_eq_true HTE.out]), hbw⟩
                · have hTb : ((T : Int) == 2 * (x : Int)) = false := by simp only [beq_eq_false_iff_ne, ne_eq]; omega
                  have HTE := Lib.hid hT2
                  clear hT2
                  go_wp2
                  go_ret
                  exact ⟨ret_bool (by rw [HF.out, decide_eq_false HTE.out]), hbw⟩
      · have h3' : 64 < lp := by omega
        have HF := Lib.hid (show gvalB vss s lp = false by rw [HG.out, show glimB ns lp = false by simp [glimB, h3], Bool.false_and, Bool.false_and])
        clear h3 CC
        go_enter Tryz.func25, Tryz.ntmps25
        go_wp2
        go_ret
        exact ⟨ret_bool HF.out.symm, hb0⟩
    · have h2' : lp < 0 := by omega
      have HF := Lib.hid (show gvalB vss s lp = false by rw [HG.out, show glimB ns lp = false by simp [glimB, h2], Bool.false_and, Bool.false_and])
      clear h2 CC
      go_enter Tryz.func25, Tryz.ntmps25
      go_wp2
      go_ret
      exact ⟨ret_bool HF.out.symm, hb0⟩
  · have h1' : 64 < (ns : Int) := by omega
    have HF := Lib.hid (show gvalB vss s lp = false by rw [HG.out, show glimB ns lp = false by simp [glimB, h1], Bool.false_and, Bool.false_and])
    clear h1 CC
    go_enter Tryz.func25, Tryz.ntmps25
    go_wp2
    go_ret
    exact ⟨ret_bool HF.out.symm, hb0⟩

end Go.Proofs.YtdacjnmfmhkpiaaGreatDoor

/- Walks: the reference's decimal and Format. -/
namespace Go.Proofs.YtdacjnmfmhkpiaaGreatDoor
open Go.RowKit Go.Joins

def digs : ByteArray := ⟨#[48, 49, 50, 51, 52, 53, 54, 55, 56, 57]⟩
theorem dig_at : ∀ i : Fin 10, (digs.extract i (i + 1)).data.toList = [UInt8.ofNat (48 + i)] := by decide
theorem digit_any (n : Nat) (h : n < 10) (w : World) : Calls Tryz.prog 60 #[.int .i64 (n : Nat)] w fun e w' => ∃ b : ByteArray, e = .returned (.string b) ∧ b.data.toList = Lib.decDigits n ∧ w = w' := by
  have hd := dig_at ⟨n, h⟩
  simp only at hd
  have hdd : Lib.decDigits n = [UInt8.ofNat (48 + n)] := Lib.decDigits_one h
  have h0 : (0 : Int) ≤ (n : Int) := Int.natCast_nonneg _
  have h1 : (n : Int) < 10 := by omega
  have h2 : (n : Int) % 10 = n := by omega
  have HD := Lib.hid hd
  have HDD := Lib.hid hdd
  clear hd hdd
  go_enter Tryz.func60, Tryz.ntmps60
  go_wp2
  go_ret
  exact ⟨_, rfl, by rw [HDD.out]; exact HD.out, rfl⟩
theorem size_of {b : ByteArray} {l : List UInt8} (h : b.data.toList = l) : b.size = l.length := by rw [← h]; exact Array.length_toList.symm
theorem join_take_le (ws : List (List UInt8)) (k : Nat) : (Lib.join (ws.take k) [32]).length ≤ (Lib.join ws [32]).length := by
  cases ws with
  | nil => simp
  | cons x r =>
    cases k with
    | zero => simp [Lib.join_nil]
    | succ k =>
      rw [List.take_succ_cons, Lib.join_cons, Lib.join_cons, List.length_append, List.length_append]
      have := Lib.joinTail_take_le [32] r k
      omega
theorem size_dec {b : ByteArray} {n : Nat} (hn : n < 100) (h : b.data.toList = Lib.decDigits n) : b.size ≤ 2 := by rw [size_of h]; exact dec_small n hn
theorem cat4 {sq b a c : ByteArray} {X d : List UInt8} (h1 : sq.data.toList = X) (h2 : b.data.toList = d) : (((sq ++ a) ++ b) ++ c).data.toList = X ++ (a.data.toList ++ d ++ c.data.toList) := by
  rw [data_append, data_append, data_append, h1, h2]; simp only [List.append_assoc]
theorem decimal_any (n : Nat) (h : n < 100) (w : World) : Calls Tryz.prog 60 #[.int .i64 (n : Nat)] w fun e w' => ∃ b : ByteArray, e = .returned (.string b) ∧ b.data.toList = Lib.decDigits n ∧ w = w' := by
  by_cases h10 : n < 10
  · exact digit_any n h10 w
  · obtain ⟨q, hq⟩ : ∃ q, q = n / 10 := ⟨_, rfl⟩
    obtain ⟨r, hr⟩ : ∃ r, r = n % 10 := ⟨_, rfl⟩
    have hr10 : r < 10 := by omega
    have hq10 : q < 10 := by omega
    have hd := dig_at ⟨r, hr10⟩
    simp only at hd
    have hdd : Lib.decDigits n = Lib.decDigits q ++ [UInt8.ofNat (48 + r)] := by
      rw [Lib.decDigits_two h10 h, Lib.decDigits_one hq10, hq, hr]; rfl
    have h0 : (0 : Int) ≤ (n : Int) := Int.natCast_nonneg _
    have h1 : (10 : Int) ≤ (n : Int) := by omega
    have hn : (n : Int) ≤ 100 := by omega
    have h2 : (n : Int) % 10 = (r : Int) := by omega
    have h3 : (n : Int) / 10 = (q : Int) := by omega
    have hr0 : (0 : Int) ≤ (r : Int) := Int.natCast_nonneg _
    have hr1 : (r : Int) < 10 := by omega
    have HD := Lib.hid hd
    have HDD := Lib.hid hdd
    have CQ := Lib.hid (digit_any q hq10 w)
    clear hd hdd hq hr
    go_enter Tryz.func60, Tryz.ntmps60
    go_wp2_with (go_at_call 60; ((with_reducible refine CQ.out.mono ?_); rintro e w1 ⟨b, rfl, hb, rfl⟩; have hbs := size_dec (by omega) hb; have HB := Lib.hid hb; clear hb))
    go_ret
    exact ⟨_, rfl, by rw [HDD.out, data_append, HB.out]; congr 1, rfl⟩

set_option maxHeartbeats 400000 in
set_option maxRecDepth 100000 in
theorem rformat_any (C S : Option Addr) (nc cc ns cs m : Nat) (vss : List (List Vis)) (s : List Int) (w : World) (hC : RVV w C nc vss) (hS : RI w S ns s) (hv : gvalB vss s (m : Int) = true) :
    Calls Tryz.prog 31 #[dval C nc cc S ns cs (m : Int)] w fun e w' => e = .returned (.string ⟨(gTxt vss s (m : Int)).toArray⟩) ∧ Below w.heap.size w w' := by
  have hd := DB.newT w C nc cc S ns cs (m : Int) 36
  have hb0 := below_alloc w (.cells #[.slice C nc cc, .slice S ns cs, .int .i64 (m : Int)] 36)
  have G := Lib.hid (gv_facts hv)
  have hm64 : m ≤ 64 := by have := G.out.lp1; omega
  have hns64 : ns ≤ 64 := by have := G.out.le; have := hS.1; omega
  have hnc128 : nc ≤ 128 := by have h1 := len_flat G.out.ne; have h2 := G.out.len; have h3 := G.out.le; have h4 := hC.1; omega
  have hfl : vss.flatten.length ≤ 128 := by have h2 := G.out.len; have h3 := G.out.le; omega
  have HFL := Lib.hid hfl
  have HC := Lib.hid hC
  have HS := Lib.hid hS
  have HCL := Lib.hid hC.1
  have HSL := Lib.hid hS.1
  have hws : gTxt vss s (m : Int) = Lib.join (gWords vss s m) [32] := by unfold gTxt; rw [Int.toNat_natCast]
  rw [hws]
  have hgl := gTxt_len hv
  rw [hws] at hgl
  have HGTL := Lib.hid hgl
  clear hgl
  have hwl := gw_len vss s m
  rw [hC.1] at hwl
  have HWL := Lib.hid hwl
  clear hC hS hv hws hwl hfl
  go_enter Tryz.func31, Tryz.ntmps31
  go_upto_region 1 with fail
  generalize w.alloc (.cells #[.slice C nc cc, .slice S ns cs, .int .i64 (m : Int)] 36) = wA at *
  obtain ⟨d0, d1, d2, dlt⟩ := hd
  have hw0 : Below wA.heap.size wA wA := Below.refl _ _
  have ht0 : (ByteArray.mk #[]).data.toList = Lib.join ((gWords vss s m).take 0) [32] := rfl
  have HT0 := Lib.hid ht0
  clear ht0
  go_wp2
  go_loopw [3, 4, 5, 6, 7, 8] (fun u i _ _ _ _ wr => ∃ (k : Nat) (sb : ByteArray), k ≤ nc + m ∧ i = .int .i64 k ∧ u = .string sb ∧ sb.data.toList = Lib.join ((gWords vss s m).take k) [32] ∧ Below wA.heap.size wA wr) (fun _ i _ _ _ _ _ => nc + m - (intOf i).toNat)
  case atStart => exact ⟨0, _, by omega, rfl, rfl, HT0.out, hw0⟩
  case round =>
    obtain ⟨k, sb, hk, rfl, rfl, hsb, hbr⟩ := hrel
    have hk0 : (0 : Int) ≤ (k : Int) := Int.natCast_nonneg _
    have hbw := below_step hb0 hbr
    have k0 := (hbr.cell (p := ⟨w.heap.size, 0, none⟩) dlt).trans d0
    have k1 := (hbr.cell (p := ⟨w.heap.size, 1, none⟩) dlt).trans d1
    have k2 := (hbr.cell (p := ⟨w.heap.size, 2, none⟩) dlt).trans d2
    have klt := Nat.lt_of_lt_of_le dlt hbr.size
    by_cases hlt : k < nc + m
    · have hk1 : (k : Int) < (nc : Int) + (m : Int) := by omega
      have hjs := join_snoc (gWords vss s m) k (by rw [HWL.out]; exact hlt)
      obtain ⟨P, hP⟩ : ∃ P, Lib.join ((gWords vss s m).take k) [32] ++ (if 0 < k then [32] else []) = P := ⟨_, rfl⟩
      rw [hP] at hjs
      have HJS := Lib.hid hjs
      have hsz : sb.size ≤ 2000 := by rw [size_of hsb]; exact Nat.le_trans (join_take_le _ _) HGTL.out
      have HSB := Lib.hid hsb
      have HP := Lib.hid hP
      clear hjs hsb hP
      have hX : ∃ sx : ByteArray, sx.data.toList = P ∧ sx = if 0 < k then sb ++ ⟨#[32]⟩ else sb := by
        by_cases hi : 0 < k
        · refine ⟨sb ++ ⟨#[32]⟩, ?_, by rw [if_pos hi]⟩
          rw [data_append, HSB.out, ← HP.out, if_pos hi]
        · refine ⟨sb, ?_, by rw [if_neg hi]⟩
          rw [HSB.out, ← HP.out, if_neg hi, List.append_nil]
      obtain ⟨sx, hx1, hx2⟩ := hX
      have hPl : P.length ≤ 2001 := by
        rw [← HP.out, List.length_append, ← size_of HSB.out]
        split <;> simp <;> omega
      have hxz : sx.size ≤ 2001 := by rw [size_of hx1]; exact hPl
      have HX := Lib.hid hx1
      clear hx1
      go_upto_if 20 with fail
      go_cut [3] (fun u wX => u = .string sx ∧ wX = wr)
      case first =>
        by_cases hi : 0 < k
        · have hi1 : 0 < (k : Int) := by omega
          rw [if_pos hi] at hx2
          have HX2 := Lib.hid hx2
          clear hi hx2
          go_wp2_with fail
          go_meet
          exact ⟨by rw [HX2.out], rfl⟩
        · have hi1 : (k : Int) ≤ 0 := by omega
          rw [if_neg hi] at hx2
          have HX2 := Lib.hid hx2
          clear hi hx2
          go_wp2_with fail
          go_meet
          exact ⟨by rw [HX2.out], rfl⟩
      case rest =>
        obtain ⟨rfl, hwc⟩ := hcut
        obtain rfl : wr = wc := hwc.symm
        clear hx2
        by_cases hkc : k < nc
        · have hkc1 : (k : Int) < (nc : Int) := by omega
          obtain ⟨bC, oC, hCe, hbC, hcc⟩ := HC.out.2 (by omega)
          subst hCe
          obtain ⟨A1, n1, c1, hcel0, hrv⟩ := hcc k hkc
          have hcel := (hbw.cell (p := ⟨bC, oC + k, none⟩) hbC).trans hcel0
          have hkl : k < vss.length := by rw [HCL.out]; exact hkc
          have hgl := gw_left (s := s) (m := m) hkl
          have hrf := row_flat (vss := vss) k
          obtain ⟨l, hl⟩ : ∃ l, vss.getD k [] = l := ⟨_, rfl⟩
          have hlm : l ∈ vss := by
            have e : vss.getD k [] = vss[k] := by simp [List.getD, hkl]
            rw [← hl, e]; exact List.getElem_mem hkl
          rw [hl] at hrv hgl hrf
          have hln := hrv.1
          have hn1 : n1 ≤ 128 := by have := HFL.out; omega
          have HRV := Lib.hid (hrv.keep hbw)
          have HLN := Lib.hid hln
          have HGL := Lib.hid hgl
          have HLM := Lib.hid hlm
          have hx0 : sx.data.toList = P ++ lTxt s (l.take 0) := by rw [HX.out]; simp [lTxt]
          have HX0 := Lib.hid hx0
          obtain ⟨wC, hwC⟩ : ∃ wC : World, wC = wr := ⟨_, rfl⟩
          subst hwC
          have hw1 : Below wC.heap.size wC wC := Below.refl _ _
          have hbC' : bC < wC.heap.size := Nat.lt_of_lt_of_le hbC hbw.size
          clear hcc hrv hln hgl hlm hrf hcel0 hl hx0 hkl
          go_wp2
          go_loopw [3, 5, 6, 7, 8] (fun u i _ _ _ wr => ∃ (q : Nat) (sq : ByteArray), q ≤ n1 ∧ i = .int .i64 q ∧ u = .string sq ∧ sq.data.toList = P ++ lTxt s (l.take q) ∧ Below wC.heap.size wC wr) (fun _ i _ _ _ _ => n1 - (intOf i).toNat)
          case atStart => exact ⟨0, sx, by omega, rfl, rfl, HX0.out, hw1⟩
          case round =>
            obtain ⟨q, sq, hq, rfl, rfl, hsq, hbq⟩ := hrel
            have hq0 : (0 : Int) ≤ (q : Int) := Int.natCast_nonneg _
            have j0 := (hbq.cell (p := ⟨w.heap.size, 0, none⟩) klt).trans k0
            have j1 := (hbq.cell (p := ⟨w.heap.size, 1, none⟩) klt).trans k1
            have jcel := (hbq.cell (p := ⟨bC, oC + k, none⟩) hbC').trans hcel
            have hbwq := below_step hbw hbq
            have hqz : sq.size ≤ 2600 := by
              have h1 := lTxt_len s (l.take q) (fun v hv => G.out.small HLM.out (List.mem_of_mem_take hv))
              rw [size_of hsq, List.length_append]
              rw [List.length_take] at h1
              omega
            have HSQ := Lib.hid hsq
            clear hsq
            by_cases hql : q < n1
            · obtain ⟨b1, o1, hAe, hb1, hcv⟩ := (HRV.out.keep hbq).2 (by omega)
              subst hAe
              obtain ⟨z0, z1⟩ := hcv q hql
              have hq1 : (q : Int) < (n1 : Int) := by omega
              have hql2 : q < l.length := by rw [HLN.out]; exact hql
              have hsuc := lTxt_succ s l q hql2
              have hrg := G.out.rng _ (mem_flat HLM.out (getD_mem l q hql2))
              obtain ⟨v, hv⟩ : ∃ v, l.getD q v0 = v := ⟨_, rfl⟩
              rw [hv] at z0 z1 hsuc hrg
              obtain ⟨vc, vo⟩ := v
              simp only at z0 z1 hrg
              obtain ⟨cu, rfl⟩ := Int.eq_ofNat_of_zero_le hrg.1
              have hcu : cu < ns := by have := hrg.2; have := HSL.out; omega
              have hcui : (cu : Int) < (ns : Int) := by omega
              have hcu0 : (0 : Int) ≤ (cu : Int) := Int.natCast_nonneg _
              obtain ⟨bS, oS, hSe, hbS, hcS⟩ := HS.out.2 (by omega)
              subst hSe
              have hsgB := (sgnsB_iff _).1 G.out.sg cu (by rw [HSL.out]; exact hcu)
              have hsg := (hbwq.cell (p := ⟨bS, oS + cu, none⟩) hbS).trans (hcS cu hcu)
              obtain ⟨sg, hsge⟩ : ∃ sg, s.getD cu 0 = sg := ⟨_, rfl⟩
              rw [hsge] at hsg hsgB
              have hsg2 : sg = 1 ∨ sg = -1 := by unfold sgB at hsgB; simpa using hsgB
              have hbX := below_step hbq (below_alloc wr (.cells #[.int .i64 (cu : Nat), .bool vo] 73))
              have hsgX := ((below_alloc wr (.cells #[.int .i64 (cu : Nat), .bool vo] 73)).cell (p := ⟨bS, oS + cu, none⟩) (Nat.lt_of_lt_of_le hbS hbwq.size)).trans hsg
              have j1X := ((below_alloc wr (.cells #[.int .i64 (cu : Nat), .bool vo] 73)).cell (p := ⟨w.heap.size, 1, none⟩) (Nat.lt_of_lt_of_le klt hbq.size)).trans j1
              have hvt : vTxt s ((cu : Int), vo) = [if vo then 79 else 85] ++ Lib.decDigits (cu + 1) ++ [if sg = 1 then 43 else 45] := by
                unfold vTxt; rw [show ((cu : Int)).toNat = cu by omega, hsge]; rfl
              rw [hvt] at hsuc
              have CD : ∀ W : World, Hid (Calls Tryz.prog 60 #[.int .i64 ((cu : Int) + 1)] W fun e w' => ∃ b : ByteArray, e = .returned (.string b) ∧ b.data.toList = Lib.decDigits (cu + 1) ∧ W = w') := fun W => by
                have := decimal_any (cu + 1) (by omega) W
                rw [show ((cu + 1 : Nat) : Int) = (cu : Int) + 1 by omega] at this
                exact this
              have HSUC := Lib.hid hsuc
              have hcu64 : (cu : Int) ≤ 64 := by omega
              clear hcv hv hsuc hrg hcS hsgB hvt hsge hql2
              rcases hsg2 with rfl | rfl <;> cases vo
              all_goals
                go_wp2_with (go_at_call 60; ((with_reducible refine (CD _).out.mono ?_); rintro e w3 ⟨b, rfl, hb, rfl⟩; have hbz := size_dec (by omega) hb; have HB := Lib.hid hb; clear hb))
                go_roundw
                case rel => exact ⟨q + 1, _, by omega, by go_num, rfl, by rw [cat4 HSQ.out HB.out, HSUC.out, List.append_assoc]; rfl, hbX⟩
                case measure => simp [intOf]; omega
            · obtain rfl : q = n1 := by omega
              have htl : l.take q = l := by rw [← HLN.out, List.take_length]
              have hfin : sq.data.toList = Lib.join ((gWords vss s m).take (k + 1)) [32] := by rw [HSQ.out, htl, HJS.out, HGL.out]
              have HFIN := Lib.hid hfin
              have hbR := hbr.trans (hbq.mono hbr.size)
              clear htl hfin hql hq
              go_wp2
              go_roundw
              case rel => exact ⟨k + 1, sq, by omega, by go_num, rfl, HFIN.out, hbR⟩
              case measure => simp [intOf]; omega
        · have hkc1 : (nc : Int) ≤ (k : Int) := by omega
          have hgr := gw_right (vss := vss) (s := s) (m := m) (k := k) (by rw [HCL.out]; omega) (by rw [HCL.out]; omega)
          have HGR := Lib.hid hgr
          clear hgr hkc
          go_wp2
          go_roundw
          case rel => exact ⟨k + 1, _, by omega, by go_num, rfl, by rw [data_append, HX.out, HJS.out, HGR.out], hbr⟩
          case measure => simp [intOf]; omega
    · obtain rfl : k = nc + m := by omega
      have htk : (gWords vss s m).take (nc + m) = gWords vss s m := by rw [← HWL.out, List.take_length]
      rw [htk] at hsb
      have he : sb = ⟨(Lib.join (gWords vss s m) [32]).toArray⟩ := by
        rw [← hsb]
      have HE := Lib.hid he
      have hk1 : ((nc + m : Nat) : Int) = (nc : Int) + (m : Int) := by omega
      clear hsb htk he hlt hk
      go_wp2
      go_ret
      exact ⟨by rw [HE.out]; rfl, hbw⟩

end Go.Proofs.YtdacjnmfmhkpiaaGreatDoor
