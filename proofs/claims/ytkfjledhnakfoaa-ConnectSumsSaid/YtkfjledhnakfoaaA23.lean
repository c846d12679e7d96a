import Derived.Test.YtkfjledhnakfoaaA22
import Derived.Test.YtkfjledhnakfoaaA21
import Derived.Test.YtkfjledhnakfoaaA04
import Derived.Test.YtkfjledhnakfoaaA11
import Derived.Test.YtkfjledhnakfoaaA16
import Derived.Test.YtkfjledhnakfoaaA15
/- Walk: Factors. -/
namespace Go.Proofs.Ytkfjledhnakfoaa
open Go.RowKit

set_option maxHeartbeats 3200000 in
set_option maxRecDepth 100000 in
theorem factors_any (f : Nat) (hf : 0 < f) (A B : Option Addr) (ns cs nm cm : Nat) (lp : Int) (s m : List Int) (ls : List (List Pl)) (w : World) (h : DV w A ns B nm s m) (hcap : nm ≤ cm ∧ cm ≤ 9223372036854775807) (hL : (splitP s m lp).length ≤ 1000)
    (hsum : (ls.map List.length).sum ≤ 100000) (hF : (splitP s m lp).map (facF f) = ls.map some) :
    Calls Try.prog 41 #[dval A ns cs B nm cm lp] w (SpPost w ls.flatten) := by
  obtain ⟨d0, d1, d2, dlt⟩ := DB.new w A ns cs B nm cm lp
  have hb0 := below_alloc w (dbox A ns cs B nm cm lp)
  have CS := Lib.hid (split_any A B ns cs nm cm lp s m _ (h.keep hb0) hcap)
  have HB0 := Lib.hid hb0
  obtain ⟨sp, hsp⟩ : ∃ sp, splitP s m lp = sp := ⟨_, rfl⟩
  rw [hsp] at CS hL hF
  have CF : Hid (∀ (V : Option Addr) (c : Nat) (ds : List Dg) (W : World), ODs W 0 (.slice V ds.length c) ds → ds.map Dg.pl = sp → Calls Try.prog 86 #[.slice V ds.length c] W (SpPost W ls.flatten)) := Lib.hid fun V c ds W hO hP =>
    factorsOf_any f hf V ds.length c ds ls W hO rfl (by have := congrArg List.length hP; rw [List.length_map] at this; omega) hsum (fun d hd => (hO.2 d hd).2.cap) (by rw [← hF, ← hP, List.map_map]; rfl)
  clear h hcap hL hsum hF hb0 hsp
  go_enter Try.func41, Try.ntmps41
  go_wp2_with (first
    | (go_at_call 87; ((with_reducible refine CS.out.mono ?_); rintro e w1 ⟨v, ds, rfl, hO, hP, hb1⟩; obtain ⟨V, c, rfl⟩ := hO.shp; have CF1 := Lib.hid (CF.out V c ds w1 (hO.mono (Nat.zero_le _)) hP)))
    | (go_at_call 86; ((with_reducible refine CF1.out.mono ?_); rintro e w2 ⟨v2, es, rfl, hO2, hP2, hb2⟩)))
  go_ret
  exact ⟨_, es, rfl, hO2.mono (Nat.le_trans HB0.out.size hb1.size), hP2, below_step HB0.out (below_step hb1 hb2)⟩

end Go.Proofs.Ytkfjledhnakfoaa

/- Walk: awake. -/
namespace Go.Proofs.Ytkfjledhnakfoaa
open Go.RowKit

theorem cnawake_any (w : World) : Calls Try.prog 12 #[] w fun e w' => e = .returned (.bool true) ∧ Below w.heap.size w w' :=
  cnawake_of (fun A B c d W o1 o2 => factors_any 2 (by omega) A B 2 c 8 d 0 k2S k2M [[(kkS,kkM,0),(kkS,kkM,0)]] W (dv_of o1.ri o2.ri k2_valid) o2.cap (by rw [k2_split]; simp) (by simp) (by rw [k2_split, List.map_cons, k2_fac]; rfl)) w

end Go.Proofs.Ytkfjledhnakfoaa

/- Walk: great. -/
namespace Go.Proofs.Ytkfjledhnakfoaa
open Go.RowKit

def cgB (ns nm : Nat) (lp : Int) : Bool := decide (14 < ns) || decide (60 < nm) || (decide (10 < lp) && decide (lp ≤ 64))
set_option maxHeartbeats 800000 in
theorem cgreat_any (A B : Option Addr) (ns cs nm cm : Nat) (lp : Int) (w : World) (hns : ns ≤ 9223372036854775807) (hnm : nm ≤ 9223372036854775807) (hlp : inI lp) :
    Calls Try.prog 13 #[dval A ns cs B nm cm lp] w fun e w' => e = .returned (.bool (cgB ns nm lp)) ∧ Below w.heap.size w w' := by
  obtain ⟨q1, q2⟩ := hlp
  obtain ⟨d0, d1, d2, dlt⟩ := DB.new w A ns cs B nm cm lp
  have HB := Lib.hid (below_alloc w (dbox A ns cs B nm cm lp))
  by_cases h1 : 14 < ns
  · have h1' : (14 : Int) < (ns : Int) := by omega
    have HE : Hid (cgB ns nm lp = true) := Lib.hid (by simp [cgB, h1])
    clear h1
    go_enter Try.func13, Try.ntmps13
    go_wp2
    go_ret
    exact ⟨ret_bool HE.out.symm, HB.out⟩
  · have h1' : ¬ (14 : Int) < (ns : Int) := by omega
    by_cases h2 : 60 < nm
    · have h2' : (60 : Int) < (nm : Int) := by omega
      have HE : Hid (cgB ns nm lp = true) := Lib.hid (by simp [cgB, h2])
      clear h1 h2
      go_enter Try.func13, Try.ntmps13
      go_wp2
      go_ret
      exact ⟨ret_bool HE.out.symm, HB.out⟩
    · have h2' : ¬ (60 : Int) < (nm : Int) := by omega
      by_cases h3 : 10 < lp
      · by_cases h4 : lp ≤ 64
        · have HE : Hid (cgB ns nm lp = true) := Lib.hid (by simp [cgB, h3, h4])
          clear h1 h2
          go_enter Try.func13, Try.ntmps13
          go_wp2
          go_ret
          exact ⟨ret_bool HE.out.symm, HB.out⟩
        · have HE : Hid (cgB ns nm lp = false) := Lib.hid (by simp only [cgB, h1, h2, h4]; simp)
          clear h1 h2
          go_enter Try.func13, Try.ntmps13
          go_wp2
          go_ret
          exact ⟨ret_bool HE.out.symm, HB.out⟩
      · have HE : Hid (cgB ns nm lp = false) := Lib.hid (by simp only [cgB, h1, h2, h3]; simp)
        clear h1 h2
        go_enter Try.func13, Try.ntmps13
        go_wp2
        go_ret
        exact ⟨ret_bool HE.out.symm, HB.out⟩
theorem cgB_out {ns nm : Nat} {lp : Int} (h : cgB ns nm lp = false) : ns ≤ 14 ∧ nm ≤ 60 := by
  unfold cgB at h; simp at h; omega
theorem DV.ofG {w : World} {A B : Option Addr} {ns nm : Nat} {s m : List Int} {lp : Int} (hs : RI w A ns s) (hm : RI w B nm m) (hmI : ∀ z ∈ m, inI z) (h : cgB ns nm lp = false) : DV w A ns B nm s m := by
  obtain ⟨h1, h2⟩ := cgB_out h
  refine ⟨hs, hm, by omega, by omega, fun j hj => ?_⟩
  have hl := hm.1
  unfold mt
  have e : m.getD j 0 = m[j]'(by omega) := by simp [List.getD, show j < m.length by omega]
  rw [e]
  exact hmI _ (List.getElem_mem _)

end Go.Proofs.Ytkfjledhnakfoaa

/- Walk: ConnectAlternates. -/
namespace Go.Proofs.Ytkfjledhnakfoaa
open Go.RowKit

set_option maxHeartbeats 6400000 in
set_option maxRecDepth 100000 in
theorem alternates_walk (A B : Option Addr) (ns cs nm cm : Nat) (lp : Int) (s m : List Int) (w : World) (hs : RI w A ns s) (hm : RI w B nm m) (hns : ns ≤ 9223372036854775807) (hnm : nm ≤ 9223372036854775807) (hmI : ∀ z ∈ m, inI z) (hlp : inI lp) :
    Calls Try.prog 5 #[dval A ns cs B nm cm lp] w fun e w' => e = .returned (.bool true) ∧ Below w.heap.size w w' := by
  have hd := DB.new w A ns cs B nm cm lp
  have hb0 := below_alloc w (dbox A ns cs B nm cm lp)
  have HD := Lib.hid hd
  have HB := Lib.hid hb0
  obtain ⟨d0, d1, d2, dlt⟩ := hd
  have CA : ∀ W : World, Hid (Calls Try.prog 12 #[] W fun e w' => e = .returned (.bool true) ∧ Below W.heap.size W w') := fun W => Lib.hid (cnawake_any W)
  have CG : ∀ W : World, Hid (Calls Try.prog 13 #[dval A ns cs B nm cm lp] W fun e w' => e = .returned (.bool (cgB ns nm lp)) ∧ Below W.heap.size W w') := fun W => Lib.hid (cgreat_any A B ns cs nm cm lp W hns hnm hlp)
  cases hf : cgB ns nm lp with
  | true =>
    rw [hf] at CG
    clear hf hs hm hmI hb0 hlp
    go_enter Try.func5, Try.ntmps5
    go_wp2_with (first
      | (go_at_call 13; ((with_reducible refine (CG _).out.mono ?_); rintro e w2 ⟨rfl, hb2⟩))
      | (go_at_call 12; ((with_reducible refine (CA _).out.mono ?_); rintro e w1 ⟨rfl, hb1⟩; have y0 := (hb1.cell (p := ⟨w.heap.size, 0, none⟩) dlt).trans d0; have y1 := (hb1.cell (p := ⟨w.heap.size, 1, none⟩) dlt).trans d1; have y2 := (hb1.cell (p := ⟨w.heap.size, 2, none⟩) dlt).trans d2)))
    go_ret
    exact ⟨rfl, below_step HB.out (below_step hb1 hb2)⟩
  | false =>
    rw [hf] at CG
    have H := Lib.hid (DV.ofG hs hm hmI hf)
    obtain ⟨hn14, hn60⟩ := cgB_out hf
    clear hf hs hm hmI hb0 hns hnm hlp
    have CV : ∀ W : World, Below w.heap.size w W → Hid (Calls Try.prog 18 #[dval A ns cs B nm cm lp] W fun e w' => e = .returned (.bool (validB s m lp)) ∧ Below W.heap.size W w') := fun W hW => Lib.hid ((H.out.keep hW).valid cs cm lp _ rfl)
    cases hv : validB s m lp with
    | false =>
      rw [hv] at CV
      clear hv
      go_enter Try.func5, Try.ntmps5
      go_wp2_with (first
        | (go_at_call 13; ((with_reducible refine (CG _).out.mono ?_); rintro e w2 ⟨rfl, hb2⟩; have hb12 := below_step hb1 hb2; have z0 := (hb12.cell (p := ⟨w.heap.size, 0, none⟩) dlt).trans d0; have z1 := (hb12.cell (p := ⟨w.heap.size, 1, none⟩) dlt).trans d1; have z2 := (hb12.cell (p := ⟨w.heap.size, 2, none⟩) dlt).trans d2))
        | (go_at_call 18; ((with_reducible refine (CV _ (below_step HB.out hb12)).out.mono ?_); rintro e w3 ⟨rfl, hb3⟩))
        | (go_at_call 12; ((with_reducible refine (CA _).out.mono ?_); rintro e w1 ⟨rfl, hb1⟩; have y0 := (hb1.cell (p := ⟨w.heap.size, 0, none⟩) dlt).trans d0; have y1 := (hb1.cell (p := ⟨w.heap.size, 1, none⟩) dlt).trans d1; have y2 := (hb1.cell (p := ⟨w.heap.size, 2, none⟩) dlt).trans d2)))
      go_ret
      exact ⟨rfl, below_step HB.out (below_step hb12 hb3)⟩
    | true =>
      rw [hv] at CV
      have HV := Lib.hid hv
      clear hv
      go_enter Try.func5, Try.ntmps5
      go_wp2_with (first
        | (go_at_call 13; ((with_reducible refine (CG _).out.mono ?_); rintro e w2 ⟨rfl, hb2⟩; have hb12 := below_step hb1 hb2; have z0 := (hb12.cell (p := ⟨w.heap.size, 0, none⟩) dlt).trans d0; have z1 := (hb12.cell (p := ⟨w.heap.size, 1, none⟩) dlt).trans d1; have z2 := (hb12.cell (p := ⟨w.heap.size, 2, none⟩) dlt).trans d2))
        | (go_at_call 18; ((with_reducible refine (CV _ (below_step HB.out hb12)).out.mono ?_); rintro e w3 ⟨rfl, hb3⟩; have hb13 := below_step hb12 hb3; have v0 := (hb13.cell (p := ⟨w.heap.size, 0, none⟩) dlt).trans d0; have v1 := (hb13.cell (p := ⟨w.heap.size, 1, none⟩) dlt).trans d1; have v2 := (hb13.cell (p := ⟨w.heap.size, 2, none⟩) dlt).trans d2))
        | (go_at_call 12; ((with_reducible refine (CA _).out.mono ?_); rintro e w1 ⟨rfl, hb1⟩; have y0 := (hb1.cell (p := ⟨w.heap.size, 0, none⟩) dlt).trans d0; have y1 := (hb1.cell (p := ⟨w.heap.size, 1, none⟩) dlt).trans d1; have y2 := (hb1.cell (p := ⟨w.heap.size, 2, none⟩) dlt).trans d2)))
      have hb13 := hb13
      have CS := Lib.hid (strands_any A B ns cs nm cm lp s m w3 (H.out.keep (below_step HB.out hb13)))
      clear CV CG CA
      go_wp2_with (go_at_call 29; ((with_reducible refine CS.out.mono ?_); rintro e wF ⟨v, rfl, oF, hbF⟩; obtain ⟨FA, Fc, rfl⟩ := oF.form))
      have HV2 := HV.out
      have HROW : Hid (∀ k, k < (strandsM s m lp).length → 0 < ((strandsM s m lp).getD k []).length ∧ ((strandsM s m lp).getD k []).length ≤ 256 ∧ ∀ i, i < ((strandsM s m lp).getD k []).length → ∃ h : Nat, h < 256 ∧ fs (matesOf m) h < 256 ∧ ((strandsM s m lp).getD k []).getD i 0 = (h : Int) ∧ ((strandsM s m lp).getD k []).getD ((i + 1) % ((strandsM s m lp).getD k []).length) 0 = (fs (matesOf m) h : Int)) := Lib.hid fun k hk => strands_row HV2 hk
      have HQ : Hid (ssOk m (strandsM s m lp) (strandsM s m lp).length = altM s m lp) := Lib.hid (ssOk_alt HV2)
      have hl0 := altM_small s m lp
      have CL := Lib.hid (alt_any A B ns cs nm cm lp s m wF (H.out.keep (below_step HB.out (below_step hb13 hbF))))
      have x0 := (hbF.cell (p := ⟨w.heap.size, 0, none⟩) (Nat.lt_of_lt_of_le dlt hb13.size)).trans v0
      have x1 := (hbF.cell (p := ⟨w.heap.size, 1, none⟩) (Nat.lt_of_lt_of_le dlt hb13.size)).trans v1
      have x2 := (hbF.cell (p := ⟨w.heap.size, 2, none⟩) (Nat.lt_of_lt_of_le dlt hb13.size)).trans v2
      have HBF := Lib.hid (below_step HB.out (below_step hb13 hbF))
      obtain ⟨xss, hxs⟩ : ∃ xss, strandsM s m lp = xss := ⟨_, rfl⟩
      rw [hxs] at oF HROW HQ hl0 ⊢
      have HOF := Lib.hid oF
      obtain ⟨bq, hbq⟩ : ∃ bq, altM s m lp = bq := ⟨_, rfl⟩
      rw [hbq] at HQ CL
      obtain ⟨L, hL⟩ : ∃ L, xss.length = L := ⟨_, rfl⟩
      rw [hL] at hl0 HOF HQ ⊢
      have HL := Lib.hid hL
      have hLi : (L : Int) ≤ 256 := by omega
      clear oF hbF hL HV2 hxs hbq y0 y1 y2 z0 z1 z2 v0 v1 v2 d0 d1 d2 hb1 hb2 hb3 hb12 hb13
      go_loopw [3, 5, 6, 7, 8, 21] (fun wt _ _ _ _ i wr => ∃ k : Nat, k ≤ L ∧ i = .int .i64 k ∧ wr = wF ∧ wt = .bool (ssOk m xss k)) (fun _ _ _ _ _ i _ => L - (intOf i).toNat)
      case atStart => exact ⟨0, by omega, rfl, rfl, rfl⟩
      case round =>
        obtain ⟨k, hk, rfl, hw, rfl⟩ := hrel
        subst wr
        have hk0 : (0 : Int) ≤ (k : Int) := Int.natCast_nonneg _
        by_cases hkn : k < L
        · have hk1 : (k : Int) < (L : Int) := by omega
          obtain ⟨_, gA, A', n', c', rfl, hgA1, hgA2, hcel, oR⟩ := HOF.out.el k (by rw [HL.out]; exact hkn)
          obtain ⟨hr0, hrl, hre⟩ := HROW.out k (by rw [HL.out]; exact hkn)
          have hS := ssOk_succ m xss k
          obtain ⟨row, hrow⟩ : ∃ row, xss.getD k [] = row := ⟨_, rfl⟩
          rw [hrow] at oR hr0 hrl hre hS
          have hn' : row.length = n' := by have := oR.ri.1; exact this
          rw [hn'] at hr0 hrl hre hS
          have HS := Lib.hid hS
          have HOR := Lib.hid oR
          have HRE := Lib.hid hre
          have HNL := Lib.hid hn'
          have hni : (n' : Int) ≤ 256 := by omega
          obtain ⟨bk, hbk⟩ : ∃ bk, ssOk m xss k = bk := ⟨_, rfl⟩
          rw [hbk] at HS ⊢
          clear oR hre hrow hn' hgA1 hS hbk
          go_wp2
          go_loopw [3, 6, 7, 8, 27] (fun wt _ _ _ i wr => ∃ j : Nat, j ≤ n' ∧ i = .int .i64 j ∧ wr = wF ∧ wt = .bool (bk && stOk m row j)) (fun _ _ _ _ i _ => n' - (intOf i).toNat)
          case atStart => exact ⟨0, by omega, rfl, rfl, by unfold stOk; simp⟩
          case round =>
            obtain ⟨j, hj, rfl, hw, rfl⟩ := hrel
            subst wr
            have hj0 : (0 : Int) ≤ (j : Int) := Int.natCast_nonneg _
            by_cases hjn : j < n'
            · have hj1 : (j : Int) < (n' : Int) := by omega
              obtain ⟨gR, cR, hsl⟩ := HOR.out.form_pos HNL.out (by omega)
              injection hsl with e1 e2 e3
              subst e1; subst e3
              clear e2
              obtain ⟨h, hh, hf, hz1, hz2⟩ := HRE.out j hjn
              obtain ⟨nx, hnx⟩ : ∃ nx, (j + 1) % n' = nx := ⟨_, rfl⟩
              have hnxl : nx < n' := by rw [← hnx]; exact Nat.mod_lt _ (by omega)
              have hcj := HOR.out.cell j (by rw [HNL.out]; exact hjn)
              have hcx := HOR.out.cell nx (by rw [HNL.out]; exact hnxl)
              rw [hnx] at hz2
              rw [hz1] at hcj
              rw [hz2] at hcx
              have hcx2 := hcx
              rw [← hnx] at hcx2
              have hS := stOk_succ m row j
              have hO : okH m (row.getD j 0) = decide (h % 2 ≠ fs (matesOf m) h % 2) := by rw [hz1]; unfold okH; rw [Int.toNat_natCast]
              rw [hO] at hS
              obtain ⟨a, ha⟩ : ∃ a, fs (matesOf m) h = a := ⟨_, rfl⟩
              rw [ha] at hcx hS hf
              have t1 : ((j : Int) + 1).tmod (n' : Int) = ((nx : Nat) : Int) := by rw [Int.tmod_eq_emod_of_nonneg (by omega), ← hnx, Int.natCast_emod]; rfl
              have t1' : ((j : Int) + 1) % (n' : Int) = ((nx : Nat) : Int) := by rw [← Int.tmod_eq_emod_of_nonneg (by omega)]; exact t1
              have t9 : n' ≠ 0 := by omega
              have t9' : (n' == 0) = false := by simp only [beq_eq_false_iff_ne, ne_eq]; omega
              have t9a : 0 < n' := by omega
              have t3 : (nx : Int) < (n' : Int) := by omega
              have t4 : (0 : Int) ≤ (nx : Int) := Int.natCast_nonneg _
              have t5 : IntKind.i64.wrap (nx : Int) = (nx : Int) := IntWalk.i64_in _ (by omega)
              have t6 : IntKind.i64.wrap ((j : Int) + 1) = (j : Int) + 1 := IntWalk.i64_in _ (by omega)
              have t7 : IntKind.i64.wrap (((j : Int) + 1).tmod (n' : Int)) = ((nx : Nat) : Int) := by rw [t1]; exact t5
              have t8 : IntKind.i64.wrap (((j : Int) + 1) % (n' : Int)) = ((nx : Nat) : Int) := by rw [t1']; exact t5
              have h0 : (0 : Int) ≤ (h : Int) := Int.natCast_nonneg _
              have a0 : (0 : Int) ≤ (a : Int) := Int.natCast_nonneg _
              have hht : (h : Int).tmod 2 = ((h % 2 : Nat) : Int) := by rw [Int.tmod_eq_emod_of_nonneg (by omega)]; omega
              have hat : (a : Int).tmod 2 = ((a % 2 : Nat) : Int) := by rw [Int.tmod_eq_emod_of_nonneg (by omega)]; omega
              have hhe : (h : Int) % 2 = ((h % 2 : Nat) : Int) := by omega
              have hae : (a : Int) % 2 = ((a % 2 : Nat) : Int) := by omega
              by_cases e : h % 2 = a % 2
              · have HR : Hid (stOk m row (j + 1) = false) := Lib.hid (by rw [hS, e]; simp)
                obtain ⟨p, hp⟩ : ∃ p, h % 2 = p := ⟨_, rfl⟩
                have hq : a % 2 = p := by omega
                rw [hp] at hht hhe
                rw [hq] at hat hae
                have hc1 : ((p : Int) == (p : Int)) = true := by simp
                have hp2 : p < 2 := by omega
                clear hS hO e hz1 hz2 ha hp hq
                go_wp2
                go_roundw
                case rel => exact ⟨j + 1, by omega, by go_num, by first | rfl | trivial, by rw [HR.out, Bool.and_false]⟩
                case measure => simp [intOf]; omega
              · have HR : Hid (stOk m row (j + 1) = stOk m row j) := Lib.hid (by rw [hS]; simp [e])
                obtain ⟨p, hp⟩ : ∃ p, h % 2 = p := ⟨_, rfl⟩
                obtain ⟨q, hq⟩ : ∃ q, a % 2 = q := ⟨_, rfl⟩
                rw [hp] at hht hhe e
                rw [hq] at hat hae e
                have hc1 : ((p : Int) == (q : Int)) = false := by first | (simp; done) | (simp; omega)
                have hp2 : p < 2 := by omega
                have hq2 : q < 2 := by omega
                clear hS hO hz1 hz2 ha hp hq
                go_wp2
                go_roundw
                case rel => exact ⟨j + 1, by omega, by go_num, by first | rfl | trivial, by rw [HR.out]⟩
                case measure => simp [intOf]; omega
            · obtain rfl : n' = j := by omega
              go_wp2
              go_roundw
              case rel => exact ⟨k + 1, by omega, by go_num, by first | rfl | trivial, by rw [HS.out]⟩
              case measure => simp [intOf]; omega
        · obtain rfl : L = k := by omega
          rw [HQ.out]
          go_wp2_with (go_at_call 22; ((with_reducible refine CL.out.mono ?_); rintro e wZ ⟨rfl, hbZ⟩))
          go_ret
          exact ⟨ret_bool (by simp), below_step HBF.out hbZ⟩

end Go.Proofs.Ytkfjledhnakfoaa
