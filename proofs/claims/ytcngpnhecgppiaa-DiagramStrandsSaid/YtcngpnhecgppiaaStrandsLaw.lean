/- Walk: the law DiagramStrands. -/
import Derived.Test.YtcngpnhecgppiaaStrPlain
import Derived.Test.YtcngpnhecgppiaaGraph
import Derived.Test.YtcngpnhecgppiaaStrands
import Derived.Test.YtcngpnhecgppiaaGreat
import Derived.Test.YtcngpnhecgppiaaAwake
import Derived.Test.YtcngpnhecgppiaaApart
namespace Go.Proofs.Ytcngpnhecgppiaa
open Go.ChangeShapes Go.WideShapes Go.ChangeAt Go.RowKit Go.Joins

theorem opp_nat (x : Nat) (hx : x ≤ 1000000) (w : World) : Calls Try.prog 19 #[.int .i64 (x : Nat)] w fun e w' => e = .returned (.int .i64 (trn x 2 : Nat)) ∧ w = w' := by
  rw [← turnI_opp]; exact opposite_any _ _ (by omega) (by omega)

set_option maxHeartbeats 12800000 in
set_option maxRecDepth 100000 in
theorem strands_walk (A B : Option Addr) (ns cs nm cm : Nat) (lp : Int) (s m : List Int) (w : World) (hs : RI w A ns s) (hm : RI w B nm m) (hns : ns ≤ 9223372036854775807) (hnm : nm ≤ 9223372036854775807) (hmI : ∀ z ∈ m, inI z) :
    Calls Try.prog 5 #[dval A ns cs B nm cm lp] w fun e w' => e = .returned (.bool true) ∧ Below w.heap.size w w' := by
  have hd := DB.new w A ns cs B nm cm lp
  have hb0 := below_alloc w (dbox A ns cs B nm cm lp)
  go_enter Try.func5, Try.ntmps5
  go_wp2_with fail
  refine (awake_any _).mono ?_
  rintro e w1 ⟨rfl, hb1⟩
  have hd1 := hd.keep hb1
  have hw1 := below_step hb0 hb1
  clear hd hb0 hb1
  have HD := Lib.hid hd1
  cases hg : grB ns nm with
  | true =>
    have CG := Lib.hid (great_big A B ns cs nm cm lp w1 hns hnm true hg)
    obtain ⟨d0, d1, d2, dlt⟩ := hd1
    clear hg hs hm hmI
    go_wp2_with (go_at_call 8; ((with_reducible refine CG.out.mono ?_); rintro e w2 ⟨rfl, hb2⟩))
    go_ret
    exact ⟨rfl, below_step hw1 hb2⟩
  | false =>
    have CG := Lib.hid (great_big A B ns cs nm cm lp w1 hns hnm false hg)
    obtain ⟨b1, b2⟩ := grB_out hg
    have H := Lib.hid (DV.mk' (hs.keep hw1) (hm.keep hw1) hmI hg)
    obtain ⟨d0, d1, d2, dlt⟩ := hd1
    have CV : ∀ (r : Bool), validB s m lp = r → ∀ W : World, Below w1.heap.size w1 W → Hid (Calls Try.prog 14 #[dval A ns cs B nm cm lp] W fun e w' => e = .returned (.bool r) ∧ Below W.heap.size W w') := fun r hr W hb => (H.out.keep hb).valid cs cm lp r hr
    clear hg hs hm hmI hns hnm
    cases hv : validB s m lp with
    | false =>
      have CVF := CV false hv
      clear CV hv
      go_wp2_with (first
        | (go_at_call 8; ((with_reducible refine CG.out.mono ?_); rintro e w2 ⟨rfl, hb2⟩; have e0 := (hb2.cell (p := ⟨w.heap.size, 0, none⟩) dlt).trans d0; have e1 := (hb2.cell (p := ⟨w.heap.size, 1, none⟩) dlt).trans d1; have e2 := (hb2.cell (p := ⟨w.heap.size, 2, none⟩) dlt).trans d2))
        | (go_at_call 14; ((with_reducible refine (CVF _ hb2).out.mono ?_); rintro e w3 ⟨rfl, hb3⟩)))
      go_ret
      exact ⟨rfl, below_step hw1 (below_step hb2 hb3)⟩
    | true =>
      have CVT := CV true hv
      clear CV
      have EU := Lib.hid (strand_facts hv H.out.hs.1 H.out.hm.1)
      have CF : ∀ W : World, Below w1.heap.size w1 W → Hid (Calls Try.prog 17 #[dval A ns cs B nm cm lp] W (CycsPost W (strandsM s m lp))) := fun W hb => strands_any A B ns cs nm cm lp s m W (H.out.keep hb)
      have CR : ∀ W : World, Below w1.heap.size w1 W → Hid (Calls Try.prog 16 #[dval A ns cs B nm cm lp] W (CycsPost W (graphM s m lp))) := fun W hb => graph_any A B ns cs nm cm lp s m W (H.out.keep hb)
      have hmk := fun W => make_one (P := Try.prog) Try.underlying22 Try.infoInt rfl ns (by omega) (by omega) W
      generalize fs (matesOf m) = f at EU
      generalize labM m = F at EU
      rw [EU.out.graph] at CR
      clear hv
      go_wp2_with (first
        | (go_at_call 8; ((with_reducible refine CG.out.mono ?_); rintro e w2 ⟨rfl, hb2⟩; have e0 := (hb2.cell (p := ⟨w.heap.size, 0, none⟩) dlt).trans d0; have e1 := (hb2.cell (p := ⟨w.heap.size, 1, none⟩) dlt).trans d1; have e2 := (hb2.cell (p := ⟨w.heap.size, 2, none⟩) dlt).trans d2; have elt := Nat.lt_of_lt_of_le dlt hb2.size))
        | (go_at_call 14; ((with_reducible refine (CVT _ hb2).out.mono ?_); rintro e w3 ⟨rfl, hb3⟩; have f0 := (hb3.cell (p := ⟨w.heap.size, 0, none⟩) elt).trans e0; have f1 := (hb3.cell (p := ⟨w.heap.size, 1, none⟩) elt).trans e1; have f2 := (hb3.cell (p := ⟨w.heap.size, 2, none⟩) elt).trans e2; have flt := Nat.lt_of_lt_of_le elt hb3.size; have hb13 := below_step hb2 hb3; have hbA := below_alloc w3 (.cells (cellsN ns fun _ => .int .i64 0) 3)))
        | (go_at_call 16; ((with_reducible refine (CR _ (below_step hb13 hbA)).out.mono ?_); rintro e w4 ⟨v, rfl, hov, hb4⟩; obtain ⟨Av, cv, hAv, hro⟩ := hov.ro; subst hAv)))
      have hb34 := below_step hbA hb4
      have hb14 := below_step hb13 hb34
      have hP0 : Arr w4 w3.heap.size 3 ns (iv (hue (graphL F ns) 0)) := ((Arr.new w3 ns 3 (fun _ => .int .i64 0)).keep hb4).congr fun i _ => rfl
      have hgB : w3.heap.size < (w3.alloc (.cells (cellsN ns fun _ => .int .i64 0) 3)).heap.size := by simp
      have HG : Hid (w4.cell? ⟨w.heap.size, 0, none⟩ = some (.slice A ns cs) ∧ w4.cell? ⟨w.heap.size, 1, none⟩ = some (.slice B nm cm) ∧ w4.cell? ⟨w.heap.size, 2, none⟩ = some (.int .i64 lp)) := ⟨(hb34.cell (p := ⟨w.heap.size, 0, none⟩) flt).trans f0, (hb34.cell (p := ⟨w.heap.size, 1, none⟩) flt).trans f1, (hb34.cell (p := ⟨w.heap.size, 2, none⟩) flt).trans f2⟩
      have hk1 : (graphL F ns).length ≤ 64 := by rw [graphL_length]; have := roots_length F ns; have := EU.out.le; omega
      have hsz3 : w1.heap.size ≤ w3.heap.size := hb13.size
      obtain ⟨g, hgx⟩ : ∃ g, w3.heap.size = g := ⟨_, rfl⟩
      rw [hgx] at hP0 hgB flt hsz3 ⊢
      have hwg : w.heap.size < g := flt
      generalize (w3.alloc (.cells (cellsN ns fun _ => .int .i64 0) 3)).heap.size = bs at hov hgB
      obtain ⟨K1, hK1⟩ : ∃ K1, (graphL F ns).length = K1 := ⟨_, rfl⟩
      have HK1 := Lib.hid hK1
      rw [hK1] at hov hk1 ⊢
      have hsz4 : w1.heap.size ≤ w4.heap.size := hb14.size
      have hgs : ∀ q, some g = some q → q < bs := fun q e => by injection e with e; omega
      have HGS := Lib.hid hgs
      clear hmk hro f0 f1 f2 e0 e1 e2 d0 d1 d2 hK1 hgx CVT CG CR hgs hbA hb34 hb4 hb3 hb2 hb13
      go_loopw [4, 5, 7, 30] (fun _ _ _ i wr => ∃ k : Nat, k ≤ K1 ∧ i = .int .i64 k ∧ w4.grownBy wr (some g) ∧ Arr wr g 3 ns (iv (hue (graphL F ns) k))) (fun _ _ _ i _ => K1 - (intOf i).toNat)
      case atStart => exact ⟨0, by omega, rfl, World.grownBy.refl _ _, hP0⟩
      case round =>
        obtain ⟨k, hk, rfl, hgr, hA⟩ := hrel
        have hk0 : (0 : Int) ≤ (k : Int) := Int.natCast_nonneg _
        by_cases hlt : k < K1
        · have hov' := hov.grown_lt hgr HGS.out
          obtain ⟨hq, gA, A', n', c', hAv, hBA, hgA, h1, hrow⟩ := hov'.el k (by rw [HK1.out]; exact hlt)
          subst hAv
          obtain ⟨hr1, hr2⟩ := graphL_get F ns (a := k) (by rw [HK1.out]; exact hlt)
          have hn' : ((graphL F ns).getD k []).length = n' := hrow.ri.1
          have HEL : Hid (∀ j, j < n' → ∃ x : Nat, ((graphL F ns).getD k []).getD j 0 = x ∧ x < ns) := fun j hj => by
            have hm := getD_mem_int (xs := (graphL F ns).getD k []) (q := j) (by omega)
            rw [hr2] at hm ⊢
            obtain ⟨x, e1, e2, _⟩ := mem_memb_nat hm
            exact ⟨x, e1, e2⟩
          have hnle : n' ≤ 64 := by rw [← hn', hr2]; have := memb_length F ns (roots F ns)[k]; have := EU.out.le; omega
          have HNX : Hid (hue (graphL F ns) (k + 1) = hueRow ((graphL F ns).getD k []) k n' (hue (graphL F ns) k)) := by rw [← hn']; rfl
          have HN := Lib.hid hn'
          generalize hue (graphL F ns) k = V0 at *
          generalize (graphL F ns).getD k [] = row at *
          have HROW := Lib.hid hrow
          have HA := Lib.hid hA
          obtain ⟨wO, hwO⟩ : ∃ wO : World, wO = wr := ⟨_, rfl⟩
          subst hwO
          have hk1' : (k : Int) < (K1 : Int) := by omega
          clear hrow hA hov' hr2 hr1 hn' hq
          go_wp2
          go_loopw [7, 37] (fun _ i wr => ∃ j : Nat, j ≤ n' ∧ i = .int .i64 j ∧ wO.grownBy wr (some g) ∧ Arr wr g 3 ns (iv (hueRow row k j V0))) (fun _ i _ => n' - (intOf i).toNat)
          case atStart => exact ⟨0, by omega, rfl, World.grownBy.refl _ _, HA.out⟩
          case round =>
            obtain ⟨j, hj, rfl, hgj, hAj⟩ := hrel
            have hj0 : (0 : Int) ≤ (j : Int) := Int.natCast_nonneg _
            by_cases hjl : j < n'
            · have hI := HROW.out.grown hgj (HROW.out.apart_lt _ HGS.out)
              obtain ⟨g', cap', e'⟩ := hI.form_pos HN.out (by omega)
              injection e' with e1 e2 e3
              subst e1; subst e3
              obtain ⟨x, hx, hxn⟩ := HEL.out j hjl
              have hcell := hI.cell j (by rw [HN.out]; exact hjl)
              rw [hx] at hcell
              have hp := hAj.cell x hxn
              have hfz := hAj.frozen x
              have hst : Arr (wr.setCell ⟨g, x, none⟩ (.int .i64 (k : Nat))) g 3 ns (iv (hueRow row k (j + 1) V0)) := (hAj.seti x k).congr fun i _ => by
                show Value.int .i64 ((upd (hueRow row k j V0) x k i : Nat) : Int) = Value.int .i64 (((if (i : Int) = row.getD j 0 then k else hueRow row k j V0 i) : Nat) : Int)
                rw [hx]
                unfold upd
                by_cases e : i = x
                · subst e; simp
                · rw [if_neg e, if_neg (by omega)]
              have HST := Lib.hid hst
              have hgn := grown_set hgj x (.int .i64 (k : Nat))
              have HGN := Lib.hid hgn
              have hj1 : (j : Int) < (n' : Int) := by omega
              have hx0 : (0 : Int) ≤ (x : Int) := Int.natCast_nonneg _
              have hx2 : (x : Int) < (ns : Int) := by omega
              clear hst hAj hx hgn hI e2
              generalize iv (hueRow row k j V0) x = pv at *
              go_wp2
              go_roundw
              case rel => exact ⟨j + 1, by omega, by go_num, HGN.out, HST.out⟩
              case measure => simp [intOf]; omega
            · obtain rfl : j = n' := by omega
              rw [← HNX.out] at hAj
              clear hjl hj
              go_wp2
              go_roundw
              case rel => exact ⟨k + 1, by omega, by go_num, hgr.trans hgj, hAj⟩
              case measure => simp [intOf]; omega
        · obtain rfl : K1 = k := by omega
          obtain ⟨wB, hwB⟩ : ∃ wB : World, wB = wr := ⟨_, rfl⟩
          subst hwB
          have HV : Hid (∀ x y, x < ns → y < ns → F x = F y → hue (graphL F ns) K1 x = hue (graphL F ns) K1 y) := fun x y hx hy e => by
            rw [← HK1.out]; exact hue_same EU.out.fle EU.out.fid hx hy e
          generalize hue (graphL F ns) K1 = V at *
          have hb1B := grown_below hb14 hgr hsz4 hsz3
          have q0 := World.grownBy.cell hgr HG.out.1 (by intro e; injection e with e; simp at e; omega)
          have q1 := World.grownBy.cell hgr HG.out.2.1 (by intro e; injection e with e; simp at e; omega)
          have q2 := World.grownBy.cell hgr HG.out.2.2 (by intro e; injection e with e; simp at e; omega)
          have qlt : w.heap.size < wB.heap.size := by have := hA.lt; omega
          have hkK : (K1 : Int) = (K1 : Int) := rfl
          clear hP0 hlt hk hk0 hov hkK
          go_wp2_with (go_at_call 17; ((with_reducible refine (CF _ hb1B).out.mono ?_); rintro e w5 ⟨vs, rfl, hos, hb5⟩; obtain ⟨As, cs', hAs, hrs⟩ := hos.ro; subst hAs))
          have hb15 := below_step hb1B hb5
          have r0 := (hb5.cell (p := ⟨w.heap.size, 0, none⟩) qlt).trans q0
          have r1 := (hb5.cell (p := ⟨w.heap.size, 1, none⟩) qlt).trans q1
          have r2 := (hb5.cell (p := ⟨w.heap.size, 2, none⟩) qlt).trans q2
          have rlt := Nat.lt_of_lt_of_le qlt hb5.size
          have hA5 := hA.keep hb5
          have CO : ∀ x : Nat, x < nm → outB s x = true → ∀ W : World, Below w5.heap.size w5 W → Hid (Calls Try.prog 18 #[dval A ns cs B nm cm lp, .int .i64 (x : Nat)] W fun e w' => e = .returned (.bool true) ∧ Below W.heap.size W w') := fun x hx ho W hb =>
            out_any A B ns cs nm cm lp (x : Nat) s m W (H.out.keep (below_step hb15 hb)) (by omega) (by omega) true (by
              unfold outV
              rw [EU.out.v, EU.out.lm, Int.toNat_natCast, ho]
              have : (0 : Int) ≤ (x : Int) ∧ (x : Int) < (nm : Int) := by omega
              simp [this.2])
          obtain ⟨K2, hK2⟩ : ∃ K2, (strandsM s m lp).length = K2 := ⟨_, rfl⟩
          have HK2 := Lib.hid hK2
          have hk2 : K2 ≤ 256 := by rw [← hK2, EU.out.len]; exact EU.out.kle
          rw [hK2] at hos ⊢
          have HA5 := Lib.hid hA5
          have HR : Hid (w5.cell? ⟨w.heap.size, 0, none⟩ = some (.slice A ns cs) ∧ w5.cell? ⟨w.heap.size, 1, none⟩ = some (.slice B nm cm) ∧ w5.cell? ⟨w.heap.size, 2, none⟩ = some (.int .i64 lp)) := ⟨r0, r1, r2⟩
          clear hrs hb5 hb1B q0 q1 q2 hA hgr r0 r1 r2 hK2 CF hA5 qlt
          go_loopw [8, 10, 11, 12, 58] (fun n _ _ _ i wr => ∃ k : Nat, k ≤ K2 ∧ i = .int .i64 k ∧ n = .int .i64 (totR (strandsM s m lp) k : Nat) ∧ Below w5.heap.size w5 wr) (fun _ _ _ _ i _ => K2 - (intOf i).toNat)
          case atStart => exact ⟨0, by omega, rfl, by rw [totR_zero]; rfl, Below.refl _ _⟩
          case round =>
            obtain ⟨k, hk, rfl, rfl, hbr⟩ := hrel
            have hk0 : (0 : Int) ≤ (k : Int) := Int.natCast_nonneg _
            by_cases hlt : k < K2
            · have hkr : k < (reprs f nm (outB s)).length := by rw [← EU.out.len, HK2.out]; exact hlt
              obtain ⟨er, hR⟩ := EU.out.row k hkr
              have hTot := EU.out.totle k (by omega)
              have HTS : Hid (totR (strandsM s m lp) (k + 1) = totR (strandsM s m lp) k + per f nm ((reprs f nm (outB s)).getD k 0)) := by
                have : totR (strandsM s m lp) (k + 1) = totR (strandsM s m lp) k + ((strandsM s m lp).getD k []).length := totR_succ (by rw [HK2.out]; exact hlt)
                exact Lib.hid (by rw [this, er, itl_length])
              obtain ⟨hq, gA, A', n', c', hAv, hBA, hgA, h1, hrow⟩ := (hos.keep hbr).el k (by rw [HK2.out]; exact hlt)
              subst hAv
              rw [er] at hrow
              generalize (reprs f nm (outB s)).getD k 0 = R at *
              obtain ⟨g', cap', e'⟩ := hrow.form_pos (itl_length _ _ _) (per_pos _ _ _)
              injection e' with e1 e2 e3
              subst e1; subst e2; subst e3
              have hgl := World.ownsRow.lt hrow g' rfl
              have HRW := Lib.hid hrow
              have HRR := Lib.hid hR
              have hple := hR.ple
              have hP0 : 0 < per f nm R := per_pos _ _ _
              have hT0 : totR (strandsM s m lp) k ≤ 65536 := by omega
              obtain ⟨T, hT⟩ : ∃ T, totR (strandsM s m lp) k = T := ⟨_, rfl⟩
              rw [hT] at hT0 HTS ⊢
              obtain ⟨wO, hwO⟩ : ∃ wO : World, wO = wr := ⟨_, rfl⟩
              subst hwO
              obtain ⟨P, hP⟩ : ∃ P, per f nm R = P := ⟨_, rfl⟩
              have HPP := Lib.hid hP
              rw [hP] at hP0 hple h1
              have hT1 : (0 : Int) ≤ (T : Int) := Int.natCast_nonneg _
              clear hrow hq er hR hT hTot hP
              go_wp2
              go_loopw [8, 11, 12, 64] (fun n _ _ i wr => ∃ j : Nat, j ≤ P ∧ i = .int .i64 j ∧ n = .int .i64 ((T : Int) + (j : Int)) ∧ Below wO.heap.size wO wr) (fun _ _ _ i _ => P - (intOf i).toNat)
              case atStart => exact ⟨0, by omega, rfl, by simp, Below.refl _ _⟩
              case round =>
                obtain ⟨j, hj, rfl, rfl, hbj⟩ := hrel
                have hj0 : (0 : Int) ≤ (j : Int) := Int.natCast_nonneg _
                by_cases hjl : j < P
                · obtain ⟨x, hx⟩ : ∃ x, it f j R = x := ⟨_, rfl⟩
                  obtain ⟨j2, hj2⟩ : ∃ j2, (j + 1) % P = j2 := ⟨_, rfl⟩
                  have hj2P : j2 < P := by rw [← hj2]; exact Nat.mod_lt _ hP0
                  have hnx : it f j2 R = trn (matesOf m x) 2 := by
                    rw [← hx, ← HRR.out.next j]
                    by_cases e : j + 1 = P
                    · have : j2 = 0 := by rw [← hj2, e, Nat.mod_self]
                      rw [this, e, ← HPP.out]
                      exact HRR.out.back.symm
                    · have : j2 = j + 1 := by rw [← hj2]; exact Nat.mod_eq_of_lt (by omega)
                      rw [this]
                  have hxn : x < nm := by rw [← hx]; exact HRR.out.itlt j
                  have hxo : outB s x = true := by rw [← hx]; exact HRR.out.out j
                  obtain ⟨hm1, hm2⟩ := EU.out.mates x hxn
                  have hRn := HRR.out.lt
                  have hn4 := EU.out.n4
                  have hq1 : x / 4 < ns := by omega
                  have hq2 : R / 4 < ns := by omega
                  have hVV : V (x / 4) = V (R / 4) := HV.out _ _ hq1 hq2 (by rw [← hx]; exact HRR.out.lab j)
                  have hI := HRW.out.keep hbj
                  have c1 := hI.cell j (by rw [itl_length, HPP.out]; exact hjl)
                  have c2 := hI.cell j2 (by rw [itl_length, HPP.out]; exact hj2P)
                  have c3 := hI.cell 0 (by rw [itl_length, HPP.out]; exact hP0)
                  rw [itl_getD _ _ _ _ (by rw [HPP.out]; exact hjl), hx] at c1
                  rw [itl_getD _ _ _ _ (by rw [HPP.out]; exact hj2P), hnx] at c2
                  rw [itl_getD _ _ _ _ (by rw [HPP.out]; exact hP0)] at c3
                  have c3' : wr.cell? ⟨g', 0, none⟩ = some (.int .i64 (R : Nat)) := c3
                  clear c3
                  have hAj := (HA5.out.keep hbr).keep hbj
                  have hb5j := below_step hbr hbj
                  have c4 : wr.cell? ⟨g, x / 4, none⟩ = some (.int .i64 (V (R / 4) : Nat)) := by rw [← hVV]; exact hAj.cell _ hq1
                  have c5 : wr.cell? ⟨g, R / 4, none⟩ = some (.int .i64 (V (R / 4) : Nat)) := hAj.cell _ hq2
                  obtain ⟨bm, om, hBm, _, hcm⟩ := (H.out.hm.keep (below_step hb15 hb5j)).2 (by omega)
                  subst hBm
                  have c6' := hcm x hxn
                  have c6 : wr.cell? ⟨bm, om + x, none⟩ = some (.int .i64 (matesOf m x : Nat)) := by rw [c6']; show some (Value.int .i64 (mt m x)) = _; rw [hm1]
                  have r0 := (hb5j.cell (p := ⟨w.heap.size, 0, none⟩) rlt).trans HR.out.1
                  have r1 := (hb5j.cell (p := ⟨w.heap.size, 1, none⟩) rlt).trans HR.out.2.1
                  have r2 := (hb5j.cell (p := ⟨w.heap.size, 2, none⟩) rlt).trans HR.out.2.2
                  have COx := CO x hxn hxo
                  have COP := fun W => Lib.hid (opp_nat (matesOf m x) (by omega) W)
                  have hd1 : (x : Int).tdiv 4 = ((x / 4 : Nat) : Int) := by rw [Int.tdiv_eq_ediv_of_nonneg (by omega)]; omega
                  have hd2 : (R : Int).tdiv 4 = ((R / 4 : Nat) : Int) := by rw [Int.tdiv_eq_ediv_of_nonneg (by omega)]; omega
                  have hw3 : ((j : Int) + 1).tmod (P : Int) = ((j2 : Nat) : Int) := by rw [Int.tmod_eq_emod_of_nonneg (by omega), ← hj2, Int.natCast_emod]; rfl
                  have hgt : 0 < j → x ≤ R → False := fun h0 h1 => by have := HRR.out.gt j h0 (by rw [HPP.out]; exact hjl); omega
                  have HGT := Lib.hid hgt
                  obtain ⟨nx, hnxx⟩ : ∃ nx, trn (matesOf m x) 2 = nx := ⟨_, rfl⟩
                  rw [hnxx] at c2 COP
                  generalize matesOf m x = mk at *
                  generalize V (R / 4) = pv at *
                  obtain ⟨q1, hq1'⟩ : ∃ q, x / 4 = q := ⟨_, rfl⟩
                  obtain ⟨q2, hq2'⟩ : ∃ q, R / 4 = q := ⟨_, rfl⟩
                  rw [hq1'] at hd1 hq1 c4
                  rw [hq2'] at hd2 hq2 c5
                  have hbD : Below wr.heap.size wr wr.drew := (Below.refl _ _).drew
                  have rltj := Nat.lt_of_lt_of_le rlt hb5j.size
                  have glt := hAj.lt
                  have g'lt := (World.ownsRow.lt hI g' rfl).2
                  obtain ⟨hmlt, hmlt'⟩ : bm < wr.heap.size ∧ True := ⟨World.block_lt_of_cell? wr ⟨bm, om + x, none⟩ c6, trivial⟩
                  have COW := fun W hb => COx W (below_step hb5j hb)
                  have y0 : decide ((x : Int) < 0) = false := by simp
                  have y1 : decide (nm ≤ x) = false := by simp; omega
                  have y2 : IntKind.i64.wrap ((j : Int) + 1) = (j : Int) + 1 := IntWalk.i64_in _ (by omega)
                  have y3 : ((P : Int) == 0) = false := by simp; omega
                  have y3' : ¬ P = 0 := by omega
                  have hw3' : ((j : Int) + 1) % (P : Int) = ((j2 : Nat) : Int) := by rw [← Int.tmod_eq_emod_of_nonneg (by omega)]; exact hw3
                  have y4 : IntKind.i64.wrap ((q1 : Nat) : Int) = (q1 : Nat) := IntWalk.i64_in _ (by omega)
                  have y5 : IntKind.i64.wrap ((q2 : Nat) : Int) = (q2 : Nat) := IntWalk.i64_in _ (by omega)
                  have y6 : IntKind.i64.wrap ((j2 : Nat) : Int) = (j2 : Nat) := IntWalk.i64_in _ (by omega)
                  have y7 : (j2 : Int) < (P : Int) := by omega
                  have y8 : (q1 : Int) < (ns : Int) := by omega
                  have y9 : (q2 : Int) < (ns : Int) := by omega
                  have ya : (x : Int) < (nm : Int) := by omega
                  have yb : (0 : Int) < (P : Int) := by omega
                  clear hq1' hq2' hnx hVV hm1 hn4 hj2 c6' hcm COx hx hAj hgt hnxx hxo hmlt'
                  by_cases hj00 : j = 0
                  · have yc : decide ((0 : Int) < (j : Int)) = false := by simp; omega
                    have yd : decide (0 < j) = false := by simp; omega
                    have yg : IntKind.i64.wrap ((T : Int) + (j : Int) + 1) = (T : Int) + (j : Int) + 1 := IntWalk.i64_in _ (by omega)
                    clear hj00
                    go_upto_region 24 with fail
                    refine wp_region_held_drew (S := (fun w' => (w'.cell? ⟨w.heap.size, 0, none⟩ = some (.slice A ns cs) ∧ w'.cell? ⟨w.heap.size, 1, none⟩ = some (.slice (some ⟨bm, om, none⟩) nm cm) ∧ w'.cell? ⟨w.heap.size, 2, none⟩ = some (.int .i64 lp)) ∧ (w'.cell? ⟨bm, om + x, none⟩ = some (.int .i64 (mk : Nat)) ∧ w'.cell? ⟨g', j2, none⟩ = some (.int .i64 (nx : Nat)) ∧ w'.cell? ⟨g', 0, none⟩ = some (.int .i64 (R : Nat))) ∧ w'.cell? ⟨g, q1, none⟩ = some (.int .i64 (pv : Nat)) ∧ w'.cell? ⟨g, q2, none⟩ = some (.int .i64 (pv : Nat)))) (by kernel_rfl) ?_ (fun hHeld => ?_)
                    · exact ⟨⟨r0, r1, r2⟩, ⟨c6, c2, c3'⟩, c4, c5⟩
                    refine wpAnyH_take (i := 0) (oi := { dst := some 69, op := Op.move (Operand.tmp 12), type := 3, pos := "law.go:167", after := #[], guard := none }) (v := ?_) rfl (by kernel_rfl) (by kernel_rfl) (by kernel_rfl) (fun _ _ _ h => h) (Or.inl ⟨by rfl, ?_⟩) (by assumption) ?_
                    rotate_left
                    · (intro w hSw; (try dsimp only at hSw); go_simp; all_goals with_reducible rfl)
                    try simp only [Act.put, List.setIfInBounds_toArray, List.set_cons_zero, List.set_cons_succ]
                    refine wpAnyH_take (i := 1) (oi := { dst := some 70, op := Op.binOp BinOp.lss 3 (Operand.tmp 69) (Operand.const (Value.int IntKind.i64 0)) 3, type := 4, pos := "law.go:167", after := #[{ on := 0, ground := Ground.data }], guard := none }) (v := ?_) rfl (by kernel_rfl) (by kernel_rfl) (by kernel_rfl) (fun _ _ _ h => h) (Or.inl ⟨by rfl, ?_⟩) (by assumption) ?_
                    rotate_left
                    · (intro w hSw; (try dsimp only at hSw); go_simp; all_goals with_reducible rfl)
                    try simp only [Act.put, List.setIfInBounds_toArray, List.set_cons_zero, List.set_cons_succ]
                    refine wpAnyH_take (i := 2) (oi := { dst := some 71, op := Op.move (Operand.tmp 70), type := 4, pos := "law.go:167", after := #[{ on := 1, ground := Ground.data }], guard := none }) (v := ?_) rfl (by kernel_rfl) (by kernel_rfl) (by kernel_rfl) (fun _ _ _ h => h) (Or.inl ⟨by rfl, ?_⟩) (by assumption) ?_
                    rotate_left
                    · (intro w hSw; (try dsimp only at hSw); go_simp; all_goals with_reducible rfl)
                    try simp only [Act.put, List.setIfInBounds_toArray, List.set_cons_zero, List.set_cons_succ]
                    refine wpAnyH_take (i := 3) (oi := { dst := some 72, op := Op.move (Operand.tmp 12), type := 3, pos := "law.go:167", after := #[{ on := 2, ground := Ground.guard }], guard := some (2, false) }) (v := ?_) rfl (by kernel_rfl) (by kernel_rfl) (by kernel_rfl) (fun _ _ _ h => h) (Or.inl ⟨by rfl, ?_⟩) (by assumption) ?_
                    rotate_left
                    · (intro w hSw; (try dsimp only at hSw); go_simp; all_goals with_reducible rfl)
                    try simp only [Act.put, List.setIfInBounds_toArray, List.set_cons_zero, List.set_cons_succ]
                    refine wpAnyH_take (i := 4) (oi := { dst := some 73, op := Op.fieldAddr 24 (Operand.tmp 1) 1, type := 0, pos := "law.go:167", after := #[{ on := 2, ground := Ground.guard }], guard := some (2, false) }) (v := ?_) rfl (by kernel_rfl) (by kernel_rfl) (by kernel_rfl) (fun _ _ _ h => h) (Or.inl ⟨by rfl, ?_⟩) (by assumption) ?_
                    rotate_left
                    · (intro w hSw; (try dsimp only at hSw); go_simp; all_goals with_reducible rfl)
                    try simp only [Act.put, List.setIfInBounds_toArray, List.set_cons_zero, List.set_cons_succ]
                    refine wpAnyH_take (i := 5) (oi := { dst := some 74, op := Op.load 22 (Operand.tmp 73), type := 22, pos := "law.go:167", after := #[{ on := 4, ground := Ground.data }, { on := 2, ground := Ground.guard }], guard := some (2, false) }) (v := ?_) rfl (by kernel_rfl) (by kernel_rfl) (by kernel_rfl) (fun _ _ _ h => h) (Or.inl ⟨by rfl, ?_⟩) (by assumption) ?_
                    rotate_left
                    · (intro w hSw; (try dsimp only at hSw); go_simp; all_goals with_reducible rfl)
                    try simp only [Act.put, List.setIfInBounds_toArray, List.set_cons_zero, List.set_cons_succ]
                    refine wpAnyH_take (i := 6) (oi := { dst := some 75, op := Op.call { callee := Callee.builtin Builtin.len, args := #[Operand.tmp 74], argTypes := #[22] }, type := 3, pos := "law.go:167", after := #[{ on := 5, ground := Ground.data }, { on := 2, ground := Ground.guard }], guard := some (2, false) }) (v := ?_) rfl (by kernel_rfl) (by kernel_rfl) (by kernel_rfl) (fun _ _ _ h => h) (Or.inl ⟨by rfl, ?_⟩) (by assumption) ?_
                    rotate_left
                    · (intro w hSw; (try dsimp only at hSw); go_simp; all_goals with_reducible rfl)
                    try simp only [Act.put, List.setIfInBounds_toArray, List.set_cons_zero, List.set_cons_succ]
                    refine wpAnyH_take (i := 7) (oi := { dst := some 76, op := Op.binOp BinOp.geq 3 (Operand.tmp 72) (Operand.tmp 75) 3, type := 4, pos := "law.go:167", after := #[{ on := 3, ground := Ground.data }, { on := 6, ground := Ground.data }, { on := 2, ground := Ground.guard }], guard := some (2, false) }) (v := ?_) rfl (by kernel_rfl) (by kernel_rfl) (by kernel_rfl) (fun _ _ _ h => h) (Or.inl ⟨by rfl, ?_⟩) (by assumption) ?_
                    rotate_left
                    · (intro w hSw; (try dsimp only at hSw); go_simp; all_goals with_reducible rfl)
                    try simp only [Act.put, List.setIfInBounds_toArray, List.set_cons_zero, List.set_cons_succ]
                    refine wpAnyH_take (i := 8) (oi := { dst := some 77, op := Op.pick (Operand.tmp 71) (Operand.const (Value.bool true)) (Operand.tmp 76), type := 4, pos := "law.go:167", after := #[{ on := 2, ground := Ground.data }, { on := 7, ground := Ground.data }], guard := none }) (v := ?_) rfl (by kernel_rfl) (by kernel_rfl) (by kernel_rfl) (fun _ _ _ h => h) (Or.inl ⟨by rfl, ?_⟩) (by assumption) ?_
                    rotate_left
                    · (intro w hSw; (try dsimp only at hSw); go_simp; all_goals with_reducible rfl)
                    try simp only [Act.put, List.setIfInBounds_toArray, List.set_cons_zero, List.set_cons_succ]
                    refine wpAnyH_take (i := 9) (oi := { dst := some 78, op := Op.move (Operand.tmp 77), type := 4, pos := "law.go:167", after := #[{ on := 8, ground := Ground.data }, { on := 2, ground := Ground.chain }], guard := none }) (v := ?_) rfl (by kernel_rfl) (by kernel_rfl) (by kernel_rfl) (fun _ _ _ h => h) (Or.inl ⟨by rfl, ?_⟩) (by assumption) ?_
                    rotate_left
                    · (intro w hSw; (try dsimp only at hSw); go_simp; all_goals with_reducible rfl)
                    try simp only [Act.put, List.setIfInBounds_toArray, List.set_cons_zero, List.set_cons_succ]
                    refine wpAnyH_take (i := 10) (oi := { dst := some 79, op := Op.load 24 (Operand.tmp 1), type := 24, pos := "law.go:167", after := #[{ on := 9, ground := Ground.guard }], guard := some (9, false) }) (v := ?_) rfl (by kernel_rfl) (by kernel_rfl) (by kernel_rfl) (fun _ _ _ h => h) (Or.inl ⟨by rfl, ?_⟩) (by assumption) ?_
                    rotate_left
                    · (intro w hSw; (try dsimp only at hSw); go_simp; all_goals with_reducible rfl)
                    try simp only [Act.put, List.setIfInBounds_toArray, List.set_cons_zero, List.set_cons_succ]
                    refine wpAnyH_take (i := 11) (oi := { dst := some 80, op := Op.move (Operand.tmp 12), type := 3, pos := "law.go:167", after := #[{ on := 9, ground := Ground.guard }], guard := some (9, false) }) (v := ?_) rfl (by kernel_rfl) (by kernel_rfl) (by kernel_rfl) (fun _ _ _ h => h) (Or.inl ⟨by rfl, ?_⟩) (by assumption) ?_
                    rotate_left
                    · (intro w hSw; (try dsimp only at hSw); go_simp; all_goals with_reducible rfl)
                    try simp only [Act.put, List.setIfInBounds_toArray, List.set_cons_zero, List.set_cons_succ]
                    refine wpAnyH_ready (rs := [12]) (by kernel_rfl) (by simp) ?_
                    refine AllReadyH.cons (o := { dst := some 81, op := Op.call { callee := Callee.value (Operand.func 18), args := #[Operand.tmp 79, Operand.tmp 80], argTypes := #[24, 3] }, type := 4, pos := "law.go:167", after := #[{ on := 10, ground := Ground.data }, { on := 11, ground := Ground.data }, { on := 9, ground := Ground.chain }, { on := 9, ground := Ground.guard }], guard := some (9, false) }) rfl (fun K hK => ?_) AllReadyH.nil
                    go_simp
                    go_at_call 18
                    refine (COW _ hbD).out.mono ?_
                    rintro e w6 ⟨rfl, hb6⟩
                    have hbB := below_step hbD hb6
                    go_simp
                    refine hK.out _ _ ?_ (fun hHeld' => ?_)
                    · exact ⟨⟨(hbB.cell (p := ⟨w.heap.size, 0, none⟩) rltj).trans r0, (hbB.cell (p := ⟨w.heap.size, 1, none⟩) rltj).trans r1, (hbB.cell (p := ⟨w.heap.size, 2, none⟩) rltj).trans r2⟩, ⟨(hbB.cell (p := ⟨bm, om + x, none⟩) hmlt).trans c6, (hbB.cell (p := ⟨g', j2, none⟩) g'lt).trans c2, (hbB.cell (p := ⟨g', 0, none⟩) g'lt).trans c3'⟩, (hbB.cell (p := ⟨g, q1, none⟩) glt).trans c4, (hbB.cell (p := ⟨g, q2, none⟩) glt).trans c5⟩
                    clear hK K hHeld
                    try simp only [Act.put, List.setIfInBounds_toArray, List.set_cons_zero, List.set_cons_succ]
                    refine wpAnyH_take (i := 13) (oi := { dst := some 82, op := Op.unOp UnOp.not 4 (Operand.tmp 81), type := 4, pos := "law.go:167", after := #[{ on := 12, ground := Ground.data }, { on := 9, ground := Ground.guard }], guard := some (9, false) }) (v := ?_) rfl (by kernel_rfl) (by kernel_rfl) (by kernel_rfl) (fun _ _ _ h => h) (Or.inl ⟨by rfl, ?_⟩) (by assumption) ?_
                    rotate_left
                    · (intro w hSw; (try dsimp only at hSw); go_simp; all_goals with_reducible rfl)
                    try simp only [Act.put, List.setIfInBounds_toArray, List.set_cons_zero, List.set_cons_succ]
                    refine wpAnyH_take (i := 14) (oi := { dst := some 83, op := Op.pick (Operand.tmp 78) (Operand.const (Value.bool true)) (Operand.tmp 82), type := 4, pos := "law.go:167", after := #[{ on := 9, ground := Ground.data }, { on := 13, ground := Ground.data }], guard := none }) (v := ?_) rfl (by kernel_rfl) (by kernel_rfl) (by kernel_rfl) (fun _ _ _ h => h) (Or.inl ⟨by rfl, ?_⟩) (by assumption) ?_
                    rotate_left
                    · (intro w hSw; (try dsimp only at hSw); go_simp; all_goals with_reducible rfl)
                    try simp only [Act.put, List.setIfInBounds_toArray, List.set_cons_zero, List.set_cons_succ]
                    refine wpAnyH_take (i := 15) (oi := { dst := some 84, op := Op.move (Operand.tmp 83), type := 4, pos := "law.go:167", after := #[{ on := 14, ground := Ground.data }, { on := 12, ground := Ground.chain }], guard := none }) (v := ?_) rfl (by kernel_rfl) (by kernel_rfl) (by kernel_rfl) (fun _ _ _ h => h) (Or.inl ⟨by rfl, ?_⟩) (by assumption) ?_
                    rotate_left
                    · (intro w hSw; (try dsimp only at hSw); go_simp; all_goals with_reducible rfl)
                    try simp only [Act.put, List.setIfInBounds_toArray, List.set_cons_zero, List.set_cons_succ]
                    refine wpAnyH_take (i := 16) (oi := { dst := some 85, op := Op.fieldAddr 24 (Operand.tmp 1) 1, type := 0, pos := "law.go:167", after := #[{ on := 15, ground := Ground.guard }], guard := some (15, false) }) (v := ?_) rfl (by kernel_rfl) (by kernel_rfl) (by kernel_rfl) (fun _ _ _ h => h) (Or.inl ⟨by rfl, ?_⟩) (by assumption) ?_
                    rotate_left
                    · (intro w hSw; (try dsimp only at hSw); go_simp; all_goals with_reducible rfl)
                    try simp only [Act.put, List.setIfInBounds_toArray, List.set_cons_zero, List.set_cons_succ]
                    refine wpAnyH_take (i := 17) (oi := { dst := some 86, op := Op.load 22 (Operand.tmp 85), type := 22, pos := "law.go:167", after := #[{ on := 16, ground := Ground.data }, { on := 15, ground := Ground.guard }], guard := some (15, false) }) (v := ?_) rfl (by kernel_rfl) (by kernel_rfl) (by kernel_rfl) (fun _ _ _ h => h) (Or.inl ⟨by rfl, ?_⟩) (by assumption) ?_
                    rotate_left
                    · (intro w hSw; (try dsimp only at hSw); go_simp; all_goals with_reducible rfl)
                    try simp only [Act.put, List.setIfInBounds_toArray, List.set_cons_zero, List.set_cons_succ]
                    refine wpAnyH_take (i := 18) (oi := { dst := some 87, op := Op.move (Operand.tmp 12), type := 3, pos := "law.go:167", after := #[{ on := 15, ground := Ground.guard }], guard := some (15, false) }) (v := ?_) rfl (by kernel_rfl) (by kernel_rfl) (by kernel_rfl) (fun _ _ _ h => h) (Or.inl ⟨by rfl, ?_⟩) (by assumption) ?_
                    rotate_left
                    · (intro w hSw; (try dsimp only at hSw); go_simp; all_goals with_reducible rfl)
                    try simp only [Act.put, List.setIfInBounds_toArray, List.set_cons_zero, List.set_cons_succ]
                    refine wpAnyH_take (i := 19) (oi := { dst := some 88, op := Op.indexAddr 22 (Operand.tmp 86) (Operand.tmp 87), type := 0, pos := "law.go:167", after := #[{ on := 17, ground := Ground.data }, { on := 18, ground := Ground.data }, { on := 15, ground := Ground.guard }], guard := some (15, false) }) (v := ?_) rfl (by kernel_rfl) (by kernel_rfl) (by kernel_rfl) (fun _ _ _ h => h) (Or.inl ⟨by rfl, ?_⟩) (by assumption) ?_
                    rotate_left
                    · (intro w hSw; (try dsimp only at hSw); go_simp; all_goals with_reducible rfl)
                    try simp only [Act.put, List.setIfInBounds_toArray, List.set_cons_zero, List.set_cons_succ]
                    refine wpAnyH_take (i := 20) (oi := { dst := some 89, op := Op.load 3 (Operand.tmp 88), type := 3, pos := "law.go:167", after := #[{ on := 19, ground := Ground.data }, { on := 15, ground := Ground.guard }], guard := some (15, false) }) (v := ?_) rfl (by kernel_rfl) (by kernel_rfl) (by kernel_rfl) (fun _ _ _ h => h) (Or.inl ⟨by rfl, ?_⟩) (by assumption) ?_
                    rotate_left
                    · (intro w hSw; (try dsimp only at hSw); go_simp; all_goals with_reducible rfl)
                    try simp only [Act.put, List.setIfInBounds_toArray, List.set_cons_zero, List.set_cons_succ]
                    refine wpAnyH_take (i := 22) (oi := { dst := some 91, op := Op.move (Operand.tmp 10), type := 22, pos := "law.go:167", after := #[{ on := 15, ground := Ground.guard }], guard := some (15, false) }) (v := ?_) rfl (by kernel_rfl) (by kernel_rfl) (by kernel_rfl) (fun _ _ _ h => h) (Or.inl ⟨by rfl, ?_⟩) (by assumption) ?_
                    rotate_left
                    · (intro w hSw; (try dsimp only at hSw); go_simp; all_goals with_reducible rfl)
                    try simp only [Act.put, List.setIfInBounds_toArray, List.set_cons_zero, List.set_cons_succ]
                    refine wpAnyH_take (i := 23) (oi := { dst := some 92, op := Op.move (Operand.tmp 11), type := 3, pos := "law.go:167", after := #[{ on := 15, ground := Ground.guard }], guard := some (15, false) }) (v := ?_) rfl (by kernel_rfl) (by kernel_rfl) (by kernel_rfl) (fun _ _ _ h => h) (Or.inl ⟨by rfl, ?_⟩) (by assumption) ?_
                    rotate_left
                    · (intro w hSw; (try dsimp only at hSw); go_simp; all_goals with_reducible rfl)
                    try simp only [Act.put, List.setIfInBounds_toArray, List.set_cons_zero, List.set_cons_succ]
                    refine wpAnyH_take (i := 24) (oi := { dst := some 93, op := Op.binOp BinOp.add 3 (Operand.tmp 92) (Operand.const (Value.int IntKind.i64 1)) 3, type := 3, pos := "law.go:167", after := #[{ on := 23, ground := Ground.data }, { on := 15, ground := Ground.guard }], guard := some (15, false) }) (v := ?_) rfl (by kernel_rfl) (by kernel_rfl) (by kernel_rfl) (fun _ _ _ h => h) (Or.inl ⟨by rfl, ?_⟩) (by assumption) ?_
                    rotate_left
                    · (intro w hSw; (try dsimp only at hSw); go_simp; all_goals with_reducible rfl)
                    try simp only [Act.put, List.setIfInBounds_toArray, List.set_cons_zero, List.set_cons_succ]
                    refine wpAnyH_take (i := 25) (oi := { dst := some 94, op := Op.move (Operand.tmp 10), type := 22, pos := "law.go:167", after := #[{ on := 15, ground := Ground.guard }], guard := some (15, false) }) (v := ?_) rfl (by kernel_rfl) (by kernel_rfl) (by kernel_rfl) (fun _ _ _ h => h) (Or.inl ⟨by rfl, ?_⟩) (by assumption) ?_
                    rotate_left
                    · (intro w hSw; (try dsimp only at hSw); go_simp; all_goals with_reducible rfl)
                    try simp only [Act.put, List.setIfInBounds_toArray, List.set_cons_zero, List.set_cons_succ]
                    refine wpAnyH_take (i := 26) (oi := { dst := some 95, op := Op.call { callee := Callee.builtin Builtin.len, args := #[Operand.tmp 94], argTypes := #[22] }, type := 3, pos := "law.go:167", after := #[{ on := 25, ground := Ground.data }, { on := 15, ground := Ground.guard }], guard := some (15, false) }) (v := ?_) rfl (by kernel_rfl) (by kernel_rfl) (by kernel_rfl) (fun _ _ _ h => h) (Or.inl ⟨by rfl, ?_⟩) (by assumption) ?_
                    rotate_left
                    · (intro w hSw; (try dsimp only at hSw); go_simp; all_goals with_reducible rfl)
                    try simp only [Act.put, List.setIfInBounds_toArray, List.set_cons_zero, List.set_cons_succ]
                    refine wpAnyH_take (i := 27) (oi := { dst := some 96, op := Op.binOp BinOp.rem 3 (Operand.tmp 93) (Operand.tmp 95) 3, type := 3, pos := "law.go:167", after := #[{ on := 24, ground := Ground.data }, { on := 26, ground := Ground.data }, { on := 15, ground := Ground.guard }], guard := some (15, false) }) (v := ?_) rfl (by kernel_rfl) (by kernel_rfl) (by kernel_rfl) (fun _ _ _ h => h) (Or.inl ⟨by rfl, ?_⟩) (by assumption) ?_
                    rotate_left
                    · (intro w hSw; (try dsimp only at hSw); go_simp; all_goals with_reducible rfl)
                    try simp only [Act.put, List.setIfInBounds_toArray, List.set_cons_zero, List.set_cons_succ]
                    refine wpAnyH_take (i := 28) (oi := { dst := some 97, op := Op.indexAddr 22 (Operand.tmp 91) (Operand.tmp 96), type := 0, pos := "law.go:167", after := #[{ on := 22, ground := Ground.data }, { on := 27, ground := Ground.data }, { on := 15, ground := Ground.guard }], guard := some (15, false) }) (v := ?_) rfl (by kernel_rfl) (by kernel_rfl) (by kernel_rfl) (fun _ _ _ h => h) (Or.inl ⟨by rfl, ?_⟩) (by assumption) ?_
                    rotate_left
                    · (intro w hSw; (try dsimp only at hSw); go_simp; all_goals with_reducible rfl)
                    try simp only [Act.put, List.setIfInBounds_toArray, List.set_cons_zero, List.set_cons_succ]
                    refine wpAnyH_take (i := 29) (oi := { dst := some 98, op := Op.load 3 (Operand.tmp 97), type := 3, pos := "law.go:167", after := #[{ on := 28, ground := Ground.data }, { on := 15, ground := Ground.guard }], guard := some (15, false) }) (v := ?_) rfl (by kernel_rfl) (by kernel_rfl) (by kernel_rfl) (fun _ _ _ h => h) (Or.inl ⟨by rfl, ?_⟩) (by assumption) ?_
                    rotate_left
                    · (intro w hSw; (try dsimp only at hSw); go_simp; all_goals with_reducible rfl)
                    try simp only [Act.put, List.setIfInBounds_toArray, List.set_cons_zero, List.set_cons_succ]
                    refine wpAnyH_ready (rs := [21]) (by kernel_rfl) (by simp) ?_
                    refine AllReadyH.cons (o := { dst := some 90, op := Op.call { callee := Callee.value (Operand.func 19), args := #[Operand.tmp 89], argTypes := #[3] }, type := 3, pos := "law.go:167", after := #[{ on := 20, ground := Ground.data }, { on := 15, ground := Ground.chain }, { on := 15, ground := Ground.guard }], guard := some (15, false) }) rfl (fun K hK => ?_) AllReadyH.nil
                    go_simp
                    go_at_call 19
                    refine (COP _).out.mono ?_
                    rintro e w7 ⟨rfl, rfl⟩
                    go_simp
                    refine hK.out _ _ hHeld' (fun _ => ?_)
                    clear hK K
                    try simp only [Act.put, List.setIfInBounds_toArray, List.set_cons_zero, List.set_cons_succ]
                    refine wpAnyH_take (i := 30) (oi := { dst := some 99, op := Op.binOp BinOp.neq 3 (Operand.tmp 90) (Operand.tmp 98) 3, type := 4, pos := "law.go:167", after := #[{ on := 21, ground := Ground.data }, { on := 29, ground := Ground.data }, { on := 15, ground := Ground.guard }], guard := some (15, false) }) (v := ?_) rfl (by kernel_rfl) (by kernel_rfl) (by kernel_rfl) (fun _ _ _ h => h) (Or.inl ⟨by rfl, ?_⟩) (by assumption) ?_
                    rotate_left
                    · (intro w hSw; (try dsimp only at hSw); go_simp; all_goals with_reducible rfl)
                    try simp only [Act.put, List.setIfInBounds_toArray, List.set_cons_zero, List.set_cons_succ]
                    refine wpAnyH_take (i := 31) (oi := { dst := some 100, op := Op.pick (Operand.tmp 84) (Operand.const (Value.bool true)) (Operand.tmp 99), type := 4, pos := "law.go:167", after := #[{ on := 15, ground := Ground.data }, { on := 30, ground := Ground.data }], guard := none }) (v := ?_) rfl (by kernel_rfl) (by kernel_rfl) (by kernel_rfl) (fun _ _ _ h => h) (Or.inl ⟨by rfl, ?_⟩) (by assumption) ?_
                    rotate_left
                    · (intro w hSw; (try dsimp only at hSw); go_simp; all_goals with_reducible rfl)
                    try simp only [Act.put, List.setIfInBounds_toArray, List.set_cons_zero, List.set_cons_succ]
                    refine wpAnyH_take (i := 32) (oi := { dst := some 101, op := Op.move (Operand.tmp 100), type := 4, pos := "law.go:167", after := #[{ on := 31, ground := Ground.data }, { on := 21, ground := Ground.chain }], guard := none }) (v := ?_) rfl (by kernel_rfl) (by kernel_rfl) (by kernel_rfl) (fun _ _ _ h => h) (Or.inl ⟨by rfl, ?_⟩) (by assumption) ?_
                    rotate_left
                    · (intro w hSw; (try dsimp only at hSw); go_simp; all_goals with_reducible rfl)
                    try simp only [Act.put, List.setIfInBounds_toArray, List.set_cons_zero, List.set_cons_succ]
                    refine wpAnyH_take (i := 33) (oi := { dst := some 102, op := Op.move (Operand.tmp 3), type := 22, pos := "law.go:167", after := #[{ on := 32, ground := Ground.guard }], guard := some (32, false) }) (v := ?_) rfl (by kernel_rfl) (by kernel_rfl) (by kernel_rfl) (fun _ _ _ h => h) (Or.inl ⟨by rfl, ?_⟩) (by assumption) ?_
                    rotate_left
                    · (intro w hSw; (try dsimp only at hSw); go_simp; all_goals with_reducible rfl)
                    try simp only [Act.put, List.setIfInBounds_toArray, List.set_cons_zero, List.set_cons_succ]
                    refine wpAnyH_take (i := 34) (oi := { dst := some 103, op := Op.move (Operand.tmp 12), type := 3, pos := "law.go:167", after := #[{ on := 32, ground := Ground.guard }], guard := some (32, false) }) (v := ?_) rfl (by kernel_rfl) (by kernel_rfl) (by kernel_rfl) (fun _ _ _ h => h) (Or.inl ⟨by rfl, ?_⟩) (by assumption) ?_
                    rotate_left
                    · (intro w hSw; (try dsimp only at hSw); go_simp; all_goals with_reducible rfl)
                    try simp only [Act.put, List.setIfInBounds_toArray, List.set_cons_zero, List.set_cons_succ]
                    refine wpAnyH_take (i := 35) (oi := { dst := some 104, op := Op.binOp BinOp.quo 3 (Operand.tmp 103) (Operand.const (Value.int IntKind.i64 4)) 3, type := 3, pos := "law.go:167", after := #[{ on := 34, ground := Ground.data }, { on := 32, ground := Ground.guard }], guard := some (32, false) }) (v := ?_) rfl (by kernel_rfl) (by kernel_rfl) (by kernel_rfl) (fun _ _ _ h => h) (Or.inl ⟨by rfl, ?_⟩) (by assumption) ?_
                    rotate_left
                    · (intro w hSw; (try dsimp only at hSw); go_simp; all_goals with_reducible rfl)
                    try simp only [Act.put, List.setIfInBounds_toArray, List.set_cons_zero, List.set_cons_succ]
                    refine wpAnyH_take (i := 36) (oi := { dst := some 105, op := Op.indexAddr 22 (Operand.tmp 102) (Operand.tmp 104), type := 0, pos := "law.go:167", after := #[{ on := 33, ground := Ground.data }, { on := 35, ground := Ground.data }, { on := 32, ground := Ground.guard }], guard := some (32, false) }) (v := ?_) rfl (by kernel_rfl) (by kernel_rfl) (by kernel_rfl) (fun _ _ _ h => h) (Or.inl ⟨by rfl, ?_⟩) (by assumption) ?_
                    rotate_left
                    · (intro w hSw; (try dsimp only at hSw); go_simp; all_goals with_reducible rfl)
                    try simp only [Act.put, List.setIfInBounds_toArray, List.set_cons_zero, List.set_cons_succ]
                    refine wpAnyH_take (i := 37) (oi := { dst := some 106, op := Op.load 3 (Operand.tmp 105), type := 3, pos := "law.go:167", after := #[{ on := 36, ground := Ground.data }, { on := 32, ground := Ground.guard }], guard := some (32, false) }) (v := ?_) rfl (by kernel_rfl) (by kernel_rfl) (by kernel_rfl) (fun _ _ _ h => h) (Or.inl ⟨by rfl, ?_⟩) (by assumption) ?_
                    rotate_left
                    · (intro w hSw; (try dsimp only at hSw); go_simp; all_goals with_reducible rfl)
                    try simp only [Act.put, List.setIfInBounds_toArray, List.set_cons_zero, List.set_cons_succ]
                    refine wpAnyH_take (i := 38) (oi := { dst := some 107, op := Op.move (Operand.tmp 3), type := 22, pos := "law.go:167", after := #[{ on := 32, ground := Ground.guard }], guard := some (32, false) }) (v := ?_) rfl (by kernel_rfl) (by kernel_rfl) (by kernel_rfl) (fun _ _ _ h => h) (Or.inl ⟨by rfl, ?_⟩) (by assumption) ?_
                    rotate_left
                    · (intro w hSw; (try dsimp only at hSw); go_simp; all_goals with_reducible rfl)
                    try simp only [Act.put, List.setIfInBounds_toArray, List.set_cons_zero, List.set_cons_succ]
                    refine wpAnyH_take (i := 39) (oi := { dst := some 108, op := Op.move (Operand.tmp 10), type := 22, pos := "law.go:167", after := #[{ on := 32, ground := Ground.guard }], guard := some (32, false) }) (v := ?_) rfl (by kernel_rfl) (by kernel_rfl) (by kernel_rfl) (fun _ _ _ h => h) (Or.inl ⟨by rfl, ?_⟩) (by assumption) ?_
                    rotate_left
                    · (intro w hSw; (try dsimp only at hSw); go_simp; all_goals with_reducible rfl)
                    try simp only [Act.put, List.setIfInBounds_toArray, List.set_cons_zero, List.set_cons_succ]
                    refine wpAnyH_take (i := 40) (oi := { dst := some 109, op := Op.indexAddr 22 (Operand.tmp 108) (Operand.const (Value.int IntKind.i64 0)), type := 0, pos := "law.go:167", after := #[{ on := 39, ground := Ground.data }, { on := 32, ground := Ground.guard }], guard := some (32, false) }) (v := ?_) rfl (by kernel_rfl) (by kernel_rfl) (by kernel_rfl) (fun _ _ _ h => h) (Or.inl ⟨by rfl, ?_⟩) (by assumption) ?_
                    rotate_left
                    · (intro w hSw; (try dsimp only at hSw); go_simp; all_goals with_reducible rfl)
                    try simp only [Act.put, List.setIfInBounds_toArray, List.set_cons_zero, List.set_cons_succ]
                    refine wpAnyH_take (i := 41) (oi := { dst := some 110, op := Op.load 3 (Operand.tmp 109), type := 3, pos := "law.go:167", after := #[{ on := 40, ground := Ground.data }, { on := 32, ground := Ground.guard }], guard := some (32, false) }) (v := ?_) rfl (by kernel_rfl) (by kernel_rfl) (by kernel_rfl) (fun _ _ _ h => h) (Or.inl ⟨by rfl, ?_⟩) (by assumption) ?_
                    rotate_left
                    · (intro w hSw; (try dsimp only at hSw); go_simp; all_goals with_reducible rfl)
                    try simp only [Act.put, List.setIfInBounds_toArray, List.set_cons_zero, List.set_cons_succ]
                    refine wpAnyH_take (i := 42) (oi := { dst := some 111, op := Op.binOp BinOp.quo 3 (Operand.tmp 110) (Operand.const (Value.int IntKind.i64 4)) 3, type := 3, pos := "law.go:167", after := #[{ on := 41, ground := Ground.data }, { on := 32, ground := Ground.guard }], guard := some (32, false) }) (v := ?_) rfl (by kernel_rfl) (by kernel_rfl) (by kernel_rfl) (fun _ _ _ h => h) (Or.inl ⟨by rfl, ?_⟩) (by assumption) ?_
                    rotate_left
                    · (intro w hSw; (try dsimp only at hSw); go_simp; all_goals with_reducible rfl)
                    try simp only [Act.put, List.setIfInBounds_toArray, List.set_cons_zero, List.set_cons_succ]
                    refine wpAnyH_take (i := 43) (oi := { dst := some 112, op := Op.indexAddr 22 (Operand.tmp 107) (Operand.tmp 111), type := 0, pos := "law.go:167", after := #[{ on := 38, ground := Ground.data }, { on := 42, ground := Ground.data }, { on := 32, ground := Ground.guard }], guard := some (32, false) }) (v := ?_) rfl (by kernel_rfl) (by kernel_rfl) (by kernel_rfl) (fun _ _ _ h => h) (Or.inl ⟨by rfl, ?_⟩) (by assumption) ?_
                    rotate_left
                    · (intro w hSw; (try dsimp only at hSw); go_simp; all_goals with_reducible rfl)
                    try simp only [Act.put, List.setIfInBounds_toArray, List.set_cons_zero, List.set_cons_succ]
                    refine wpAnyH_take (i := 44) (oi := { dst := some 113, op := Op.load 3 (Operand.tmp 112), type := 3, pos := "law.go:167", after := #[{ on := 43, ground := Ground.data }, { on := 32, ground := Ground.guard }], guard := some (32, false) }) (v := ?_) rfl (by kernel_rfl) (by kernel_rfl) (by kernel_rfl) (fun _ _ _ h => h) (Or.inl ⟨by rfl, ?_⟩) (by assumption) ?_
                    rotate_left
                    · (intro w hSw; (try dsimp only at hSw); go_simp; all_goals with_reducible rfl)
                    try simp only [Act.put, List.setIfInBounds_toArray, List.set_cons_zero, List.set_cons_succ]
                    refine wpAnyH_take (i := 45) (oi := { dst := some 114, op := Op.binOp BinOp.neq 3 (Operand.tmp 106) (Operand.tmp 113) 3, type := 4, pos := "law.go:167", after := #[{ on := 37, ground := Ground.data }, { on := 44, ground := Ground.data }, { on := 32, ground := Ground.guard }], guard := some (32, false) }) (v := ?_) rfl (by kernel_rfl) (by kernel_rfl) (by kernel_rfl) (fun _ _ _ h => h) (Or.inl ⟨by rfl, ?_⟩) (by assumption) ?_
                    rotate_left
                    · (intro w hSw; (try dsimp only at hSw); go_simp; all_goals with_reducible rfl)
                    try simp only [Act.put, List.setIfInBounds_toArray, List.set_cons_zero, List.set_cons_succ]
                    refine wpAnyH_take (i := 46) (oi := { dst := some 115, op := Op.pick (Operand.tmp 101) (Operand.const (Value.bool true)) (Operand.tmp 114), type := 4, pos := "law.go:167", after := #[{ on := 32, ground := Ground.data }, { on := 45, ground := Ground.data }], guard := none }) (v := ?_) rfl (by kernel_rfl) (by kernel_rfl) (by kernel_rfl) (fun _ _ _ h => h) (Or.inl ⟨by rfl, ?_⟩) (by assumption) ?_
                    rotate_left
                    · (intro w hSw; (try dsimp only at hSw); go_simp; all_goals with_reducible rfl)
                    try simp only [Act.put, List.setIfInBounds_toArray, List.set_cons_zero, List.set_cons_succ]
                    refine wpAnyH_take (i := 47) (oi := { dst := some 116, op := Op.move (Operand.tmp 115), type := 4, pos := "law.go:167", after := #[{ on := 46, ground := Ground.data }, { on := 32, ground := Ground.chain }], guard := none }) (v := ?_) rfl (by kernel_rfl) (by kernel_rfl) (by kernel_rfl) (fun _ _ _ h => h) (Or.inl ⟨by rfl, ?_⟩) (by assumption) ?_
                    rotate_left
                    · (intro w hSw; (try dsimp only at hSw); go_simp; all_goals with_reducible rfl)
                    try simp only [Act.put, List.setIfInBounds_toArray, List.set_cons_zero, List.set_cons_succ]
                    refine wpAnyH_take (i := 48) (oi := { dst := some 117, op := Op.move (Operand.tmp 11), type := 3, pos := "law.go:167", after := #[{ on := 47, ground := Ground.guard }], guard := some (47, false) }) (v := ?_) rfl (by kernel_rfl) (by kernel_rfl) (by kernel_rfl) (fun _ _ _ h => h) (Or.inl ⟨by rfl, ?_⟩) (by assumption) ?_
                    rotate_left
                    · (intro w hSw; (try dsimp only at hSw); go_simp; all_goals with_reducible rfl)
                    try simp only [Act.put, List.setIfInBounds_toArray, List.set_cons_zero, List.set_cons_succ]
                    refine wpAnyH_take (i := 49) (oi := { dst := some 118, op := Op.binOp BinOp.gtr 3 (Operand.tmp 117) (Operand.const (Value.int IntKind.i64 0)) 3, type := 4, pos := "law.go:167", after := #[{ on := 48, ground := Ground.data }, { on := 47, ground := Ground.guard }], guard := some (47, false) }) (v := ?_) rfl (by kernel_rfl) (by kernel_rfl) (by kernel_rfl) (fun _ _ _ h => h) (Or.inl ⟨by rfl, ?_⟩) (by assumption) ?_
                    rotate_left
                    · (intro w hSw; (try dsimp only at hSw); go_simp; all_goals with_reducible rfl)
                    try simp only [Act.put, List.setIfInBounds_toArray, List.set_cons_zero, List.set_cons_succ]
                    refine wpAnyH_take (i := 50) (oi := { dst := some 119, op := Op.move (Operand.tmp 118), type := 4, pos := "law.go:167", after := #[{ on := 49, ground := Ground.data }, { on := 47, ground := Ground.chain }, { on := 47, ground := Ground.guard }], guard := some (47, false) }) (v := ?_) rfl (by kernel_rfl) (by kernel_rfl) (by kernel_rfl) (fun _ _ _ h => h) (Or.inl ⟨by rfl, ?_⟩) (by assumption) ?_
                    rotate_left
                    · (intro w hSw; (try dsimp only at hSw); go_simp; all_goals with_reducible rfl)
                    try simp only [Act.put, List.setIfInBounds_toArray, List.set_cons_zero, List.set_cons_succ]
                    refine wpAnyH_take (i := 51) (oi := { dst := some 120, op := Op.move (Operand.tmp 12), type := 3, pos := "law.go:167", after := #[{ on := 50, ground := Ground.guard }], guard := some (50, true) }) (v := undef) rfl (by kernel_rfl) (by kernel_rfl) (by kernel_rfl) (fun _ _ _ h => h) (Or.inr ⟨by rfl, rfl⟩) (by assumption) ?_
                    try simp only [Act.put, List.setIfInBounds_toArray, List.set_cons_zero, List.set_cons_succ]
                    refine wpAnyH_take (i := 52) (oi := { dst := some 121, op := Op.move (Operand.tmp 10), type := 22, pos := "law.go:167", after := #[{ on := 50, ground := Ground.guard }], guard := some (50, true) }) (v := undef) rfl (by kernel_rfl) (by kernel_rfl) (by kernel_rfl) (fun _ _ _ h => h) (Or.inr ⟨by rfl, rfl⟩) (by assumption) ?_
                    try simp only [Act.put, List.setIfInBounds_toArray, List.set_cons_zero, List.set_cons_succ]
                    refine wpAnyH_take (i := 53) (oi := { dst := some 122, op := Op.indexAddr 22 (Operand.tmp 121) (Operand.const (Value.int IntKind.i64 0)), type := 0, pos := "law.go:167", after := #[{ on := 52, ground := Ground.data }, { on := 50, ground := Ground.guard }], guard := some (50, true) }) (v := undef) rfl (by kernel_rfl) (by kernel_rfl) (by kernel_rfl) (fun _ _ _ h => h) (Or.inr ⟨by rfl, rfl⟩) (by assumption) ?_
                    try simp only [Act.put, List.setIfInBounds_toArray, List.set_cons_zero, List.set_cons_succ]
                    refine wpAnyH_take (i := 54) (oi := { dst := some 123, op := Op.load 3 (Operand.tmp 122), type := 3, pos := "law.go:167", after := #[{ on := 53, ground := Ground.data }, { on := 50, ground := Ground.guard }], guard := some (50, true) }) (v := undef) rfl (by kernel_rfl) (by kernel_rfl) (by kernel_rfl) (fun _ _ _ h => h) (Or.inr ⟨by rfl, rfl⟩) (by assumption) ?_
                    try simp only [Act.put, List.setIfInBounds_toArray, List.set_cons_zero, List.set_cons_succ]
                    refine wpAnyH_take (i := 55) (oi := { dst := some 124, op := Op.binOp BinOp.leq 3 (Operand.tmp 120) (Operand.tmp 123) 3, type := 4, pos := "law.go:167", after := #[{ on := 51, ground := Ground.data }, { on := 54, ground := Ground.data }, { on := 50, ground := Ground.guard }], guard := some (50, true) }) (v := undef) rfl (by kernel_rfl) (by kernel_rfl) (by kernel_rfl) (fun _ _ _ h => h) (Or.inr ⟨by rfl, rfl⟩) (by assumption) ?_
                    try simp only [Act.put, List.setIfInBounds_toArray, List.set_cons_zero, List.set_cons_succ]
                    refine wpAnyH_take (i := 56) (oi := { dst := some 125, op := Op.pick (Operand.tmp 119) (Operand.tmp 124) (Operand.const (Value.bool false)), type := 4, pos := "law.go:167", after := #[{ on := 50, ground := Ground.data }, { on := 55, ground := Ground.data }, { on := 47, ground := Ground.guard }], guard := some (47, false) }) (v := ?_) rfl (by kernel_rfl) (by kernel_rfl) (by kernel_rfl) (fun _ _ _ h => h) (Or.inl ⟨by rfl, ?_⟩) (by assumption) ?_
                    rotate_left
                    · (intro w hSw; (try dsimp only at hSw); go_simp; all_goals with_reducible rfl)
                    try simp only [Act.put, List.setIfInBounds_toArray, List.set_cons_zero, List.set_cons_succ]
                    refine wpAnyH_take (i := 57) (oi := { dst := some 126, op := Op.pick (Operand.tmp 116) (Operand.const (Value.bool true)) (Operand.tmp 125), type := 4, pos := "law.go:167", after := #[{ on := 47, ground := Ground.data }, { on := 56, ground := Ground.data }], guard := none }) (v := ?_) rfl (by kernel_rfl) (by kernel_rfl) (by kernel_rfl) (fun _ _ _ h => h) (Or.inl ⟨by rfl, ?_⟩) (by assumption) ?_
                    rotate_left
                    · (intro w hSw; (try dsimp only at hSw); go_simp; all_goals with_reducible rfl)
                    try simp only [Act.put, List.setIfInBounds_toArray, List.set_cons_zero, List.set_cons_succ]
                    refine wpAnyH_done (by kernel_rfl) ?_ _
                    go_wp2
                    go_roundw
                    case rel => exact ⟨j + 1, by omega, by go_num, by go_num, below_step hbj hbB⟩
                    case measure => simp [intOf]; omega
                  · have yc : decide ((0 : Int) < (j : Int)) = true := by simp; omega
                    have yd : decide (0 < j) = true := by simp; omega
                    have ye : decide ((x : Int) ≤ (R : Int)) = false := by
                      have : ¬ x ≤ R := fun h => HGT.out (by omega) h
                      simp; omega
                    have yf : decide (x ≤ R) = false := by
                      have : ¬ x ≤ R := fun h => HGT.out (by omega) h
                      simp; omega
                    have yg : IntKind.i64.wrap ((T : Int) + (j : Int) + 1) = (T : Int) + (j : Int) + 1 := IntWalk.i64_in _ (by omega)
                    clear hj00
                    go_upto_region 24 with fail
                    go_region_held3 (fun w' => (w'.cell? ⟨w.heap.size, 0, none⟩ = some (.slice A ns cs) ∧ w'.cell? ⟨w.heap.size, 1, none⟩ = some (.slice (some ⟨bm, om, none⟩) nm cm) ∧ w'.cell? ⟨w.heap.size, 2, none⟩ = some (.int .i64 lp)) ∧ (w'.cell? ⟨bm, om + x, none⟩ = some (.int .i64 (mk : Nat)) ∧ w'.cell? ⟨g', j2, none⟩ = some (.int .i64 (nx : Nat)) ∧ w'.cell? ⟨g', 0, none⟩ = some (.int .i64 (R : Nat))) ∧ w'.cell? ⟨g, q1, none⟩ = some (.int .i64 (pv : Nat)) ∧ w'.cell? ⟨g, q2, none⟩ = some (.int .i64 (pv : Nat)))
                        (first
                          | go_keep
                          | exact ⟨⟨(hbB.cell (p := ⟨w.heap.size, 0, none⟩) rltj).trans r0, (hbB.cell (p := ⟨w.heap.size, 1, none⟩) rltj).trans r1, (hbB.cell (p := ⟨w.heap.size, 2, none⟩) rltj).trans r2⟩, ⟨(hbB.cell (p := ⟨bm, om + x, none⟩) hmlt).trans c6, (hbB.cell (p := ⟨g', j2, none⟩) g'lt).trans c2, (hbB.cell (p := ⟨g', 0, none⟩) g'lt).trans c3'⟩, (hbB.cell (p := ⟨g, q1, none⟩) glt).trans c4, (hbB.cell (p := ⟨g, q2, none⟩) glt).trans c5⟩)
                        (first
                          | (go_at_call 18; ((with_reducible refine (COW _ hbD).out.mono ?_); rintro e w6 ⟨rfl, hb6⟩; have hbB := below_step hbD hb6))
                          | (go_at_call 19; ((with_reducible refine (COP _).out.mono ?_); rintro e w7 ⟨rfl, rfl⟩)))
                    have hbS := below_step hbr (below_step hbj hbB)
                    go_wp2
                    go_roundw
                    case rel => exact ⟨j + 1, by omega, by go_num, by go_num, below_step hbj hbB⟩
                    case measure => simp [intOf]; omega
                · obtain rfl : j = P := by omega
                  clear hjl hj
                  go_wp2
                  go_roundw
                  case rel => exact ⟨k + 1, by omega, by go_num, by rw [HTS.out, HPP.out, Int.natCast_add], below_step hbr hbj⟩
                  case measure => simp [intOf]; omega
            · obtain rfl : K2 = k := by omega
              have htot : totR (strandsM s m lp) K2 = 2 * ns := by rw [← HK2.out]; exact EU.out.tot
              rw [htot]
              have r0 := (hbr.cell (p := ⟨w.heap.size, 0, none⟩) rlt).trans HR.out.1
              have hw2 : IntKind.i64.wrap (2 * (ns : Int)) = 2 * (ns : Int) := IntWalk.i64_in _ (by omega)
              have hww := below_step hw1 (below_step hb15 hbr)
              clear htot hlt hk hk0
              go_wp2
              go_ret
              exact ⟨ret_bool (by simp), hww⟩

end Go.Proofs.Ytcngpnhecgppiaa
