import Derived.Test.YtdacjnmfmhkpiaaGreatDoorD07
import Derived.Test.YtdacjnmfmhkpiaaGreatDoorD01
import Derived.Test.YtdacjnmfmhkpiaaGreatDoorD06
import Derived.ChangeBookTie2
/- Walk: mates. -/
namespace Go.Proofs.YtdacjnmfmhkpiaaGreatDoor
open Go.RowKit

/-- The array of mates, as it is filled: a visit and the next one. -/
def mStep (s : List Int) (u v : Vis) (M : Nat → Nat) : Nat → Nat := upd (upd M (outN s u.1.toNat u.2) (inN s v.1.toNat v.2)) (inN s v.1.toNat v.2) (outN s u.1.toNat u.2)
def mRow (s : List Int) (l : List Vis) (M : Nat → Nat) : Nat → Nat → Nat
  | 0 => M
  | i + 1 => mStep s (l.getD i v0) (l.getD ((i + 1) % l.length) v0) (mRow s l M i)
def mAll (s : List Int) (vss : List (List Vis)) : Nat → Nat → Nat
  | 0 => fun _ => 0
  | j + 1 => mRow s (vss.getD j []) (mAll s vss j) (vss.getD j []).length
/-- Each visit is of a crossing below n. -/
def InR (vss : List (List Vis)) (n : Nat) : Prop := ∀ j i, j < vss.length → i < (vss.getD j []).length → 0 ≤ ((vss.getD j []).getD i v0).1 ∧ ((vss.getD j []).getD i v0).1 < n
def MatesPost (w : World) (n : Nat) (M : Nat → Nat) (e : Ending) (w' : World) : Prop := ∃ g, w.heap.size ≤ g ∧ e = .returned (.slice (some ⟨g, 0, none⟩) (4 * n) (4 * n)) ∧ Arr w' g 3 (4 * n) (iv M) ∧ Below w.heap.size w w'
theorem outN_ne_inN (s : List Int) (c d : Nat) (o p : Bool) : outN s c o ≠ inN s d p := by
  intro h
  unfold outN inN at h
  cases o <;> cases p <;> simp only [if_true, if_false, Bool.true_eq_false] at h
  · omega
  · split at h <;> omega
  · split at h <;> omega
  · by_cases e : c = d
    · subst e
      split at h <;> omega
    · split at h <;> split at h <;> omega
theorem outN_lt {s : List Int} {c n : Nat} (o : Bool) (h : c < n) : outN s c o < 4 * n := by unfold outN; split <;> (try split) <;> omega
theorem inN_lt {s : List Int} {c n : Nat} (o : Bool) (h : c < n) : inN s c o < 4 * n := by unfold inN; split <;> (try split) <;> omega

set_option maxHeartbeats 3200000 in
set_option maxRecDepth 100000 in
theorem mates_any (C S : Option Addr) (nc cc ns cs : Nat) (lp : Int) (vss : List (List Vis)) (s : List Int) (w : World) (hC : RVV w C nc vss) (hS : RI w S ns s) (hns : ns ≤ 1000) (hnc : nc ≤ 1000) (hin : InR vss ns) (hll : ∀ j, (vss.getD j []).length ≤ 1000) :
    Calls Tryz.prog 46 #[dval C nc cc S ns cs lp] w (MatesPost w ns (mAll s vss nc)) := by
  have hd := DB.newT w C nc cc S ns cs lp 28
  have hb0 := below_alloc w (.cells #[.slice C nc cc, .slice S ns cs, .int .i64 lp] 28)
  have hcl := hC.1
  have HCL := Lib.hid hcl
  have HIN := Lib.hid hin
  have HLL := Lib.hid hll
  have hmk : ∀ W, (Instr.makeSlice 22 (.int .i64 (4 * (ns : Int))) (.int .i64 (4 * (ns : Int)))).run Tryz.prog W = .ok (.slice (some ⟨W.heap.size, 0, none⟩) (4 * ns) (4 * ns)) (W.alloc (.cells (cellsN (4 * ns) fun _ => .int .i64 0) 3)) := fun W => by
    have := make_one (P := Tryz.prog) Tryz.underlying22 Tryz.infoInt rfl (4 * ns) (by omega) (by omega) W
    rw [show ((4 * ns : Nat) : Int) = 4 * (ns : Int) by omega] at this
    exact this
  clear hcl hin hll
  go_enter Tryz.func46, Tryz.ntmps46
  go_upto_region 1 with fail
  have HCw := Lib.hid (hC.keep hb0)
  have HSw := Lib.hid (hS.keep hb0)
  have HD := Lib.hid hd
  have hsz : (w.alloc (.cells #[.slice C nc cc, .slice S ns cs, .int .i64 lp] 28)).heap.size = w.heap.size + 1 := by simp
  generalize w.alloc (.cells #[.slice C nc cc, .slice S ns cs, .int .i64 lp] 28) = wA at *
  obtain ⟨d0, d1, d2, dlt⟩ := HD.out
  obtain ⟨gM, hgM⟩ : ∃ g, wA.heap.size = g := ⟨_, rfl⟩
  have hA0 : Arr (wA.alloc (.cells (cellsN (4 * ns) fun _ => .int .i64 0) 3)) wA.heap.size 3 (4 * ns) (iv (mAll s vss 0)) := (Arr.new wA (4 * ns) 3 (fun _ => .int .i64 0)).congr fun i _ => rfl
  have hbA := below_alloc wA (.cells (cellsN (4 * ns) fun _ => .int .i64 0) 3)
  rw [hgM] at hA0 hbA dlt
  have HG := Lib.hid hgM
  have hwg : w.heap.size < gM := by omega
  clear hC hS hd hsz hgM
  go_upto_region 2 with fail
  rw [HG.out]
  have c0 := (hbA.cell (p := ⟨w.heap.size, 0, none⟩) hwg).trans d0
  generalize wA.alloc (.cells (cellsN (4 * ns) fun _ => .int .i64 0) 3) = wB at hA0 hbA c0 ⊢
  go_wp2
  go_loopw [5, 6, 7, 8, 9, 10, 19] (fun _ _ _ _ _ _ i wr => ∃ k : Nat, k ≤ nc ∧ i = .int .i64 k ∧ Below gM wA wr ∧ Arr wr gM 3 (4 * ns) (iv (mAll s vss k))) (fun _ _ _ _ _ _ i _ => nc - (intOf i).toNat)
  case atStart => exact ⟨0, by omega, rfl, hbA, hA0⟩
  case round =>
    obtain ⟨k, hk, rfl, hbr, hA⟩ := hrel
    have hk0 : (0 : Int) ≤ (k : Int) := Int.natCast_nonneg _
    by_cases hlt : k < nc
    · have hbr' : Below wA.heap.size wA wr := by rw [HG.out]; exact hbr
      obtain ⟨bC, oC, hCe, hbC, hcc⟩ := HCw.out.2 (by omega)
      subst hCe
      obtain ⟨A1, n1, c1, hcel0, hrv⟩ := hcc k hlt
      have hcel := (hbr'.cell (p := ⟨bC, oC + k, none⟩) hbC).trans hcel0
      obtain ⟨l, hl⟩ : ∃ l, vss.getD k [] = l := ⟨_, rfl⟩
      have hl1 := HLL.out k
      have hin1 : ∀ i, i < n1 → 0 ≤ (l.getD i v0).1 ∧ (l.getD i v0).1 < ns := fun i hi => by
        have h1 := hrv.1
        have := HIN.out k i (by rw [HCL.out]; exact hlt) (by rw [h1]; exact hi)
        rw [hl] at this; exact this
      rw [hl] at hrv hl1
      have hln := hrv.1
      rw [hln] at hl1
      have HIN1 := Lib.hid hin1
      have hk1 : (k : Int) < (nc : Int) := by omega
      have hA1 : Arr wr gM 3 (4 * ns) (iv (mRow s l (mAll s vss k) 0)) := hA
      have hMn : mRow s l (mAll s vss k) n1 = mAll s vss (k + 1) := by
        show _ = mRow s (vss.getD k []) (mAll s vss k) (vss.getD k []).length
        rw [hl, hln]
      have HMN := Lib.hid hMn
      have HLN := Lib.hid hln
      have HRV := Lib.hid hrv
      obtain ⟨wC, hwC⟩ : ∃ wC : World, wC = wr := ⟨_, rfl⟩
      subst hwC
      clear hcc hin1 hA hln hMn hl hrv
      go_wp2
      go_loopw [6, 7, 8, 9, 10, 25] (fun _ _ _ _ _ i wr => ∃ q : Nat, q ≤ n1 ∧ i = .int .i64 q ∧ Below gM wA wr ∧ Arr wr gM 3 (4 * ns) (iv (mRow s l (mAll s vss k) q))) (fun _ _ _ _ _ i _ => n1 - (intOf i).toNat)
      case atStart => exact ⟨0, by omega, rfl, hbr, hA1⟩
      case round =>
        obtain ⟨q, hq, rfl, hbq, hAq⟩ := hrel
        have hq0 : (0 : Int) ≤ (q : Int) := Int.natCast_nonneg _
        have hbq' : Below wA.heap.size wA wr := by rw [HG.out]; exact hbq
        by_cases hql : q < n1
        · obtain ⟨b1, o1, hAe, hb1, hcv⟩ := (HRV.out.keep hbq').2 (by omega)
          subst hAe
          obtain ⟨nx, hnx⟩ : ∃ nx, (q + 1) % n1 = nx := ⟨_, rfl⟩
          have hnl : nx < n1 := by rw [← hnx]; exact Nat.mod_lt _ (by omega)
          obtain ⟨z0, z1⟩ := hcv q hql
          obtain ⟨z2, z3⟩ := hcv nx hnl
          obtain ⟨iu0, iu1⟩ := HIN1.out q hql
          obtain ⟨iv0, iv1⟩ := HIN1.out nx hnl
          have hstep : mRow s l (mAll s vss k) (q + 1) = mStep s (l.getD q v0) (l.getD nx v0) (mRow s l (mAll s vss k) q) := by
            show mStep s (l.getD q v0) (l.getD ((q + 1) % l.length) v0) (mRow s l (mAll s vss k) q) = _
            rw [HLN.out, hnx]
          obtain ⟨u, hu⟩ : ∃ u, l.getD q v0 = u := ⟨_, rfl⟩
          obtain ⟨v, hv⟩ : ∃ v, l.getD nx v0 = v := ⟨_, rfl⟩
          rw [hu] at z0 z1 iu0 iu1 hstep
          rw [hv] at z2 z3 iv0 iv1 hstep
          obtain ⟨uc, uo⟩ := u
          obtain ⟨vc, vo⟩ := v
          simp only at z0 z1 iu0 iu1 z2 z3 iv0 iv1
          obtain ⟨cu, rfl⟩ := Int.eq_ofNat_of_zero_le iu0
          obtain ⟨cv, rfl⟩ := Int.eq_ofNat_of_zero_le iv0
          have hcu : cu < ns := by omega
          have hcv' : cv < ns := by omega
          have t1 : ((q : Int) + 1).tmod (n1 : Int) = ((nx : Nat) : Int) := by rw [Int.tmod_eq_emod_of_nonneg (by omega), ← hnx, Int.natCast_emod]; rfl
          have t1' : ((q : Int) + 1) % (n1 : Int) = ((nx : Nat) : Int) := by rw [← Int.tmod_eq_emod_of_nonneg (by omega)]; exact t1
          have t2 : (n1 : Int) ≠ 0 := by omega
          have t2' : ((n1 : Int) == 0) = false := by simp only [beq_eq_false_iff_ne, ne_eq]; omega
          have t3 : (nx : Int) < (n1 : Int) := by omega
          have t4 : (0 : Int) ≤ (nx : Int) := Int.natCast_nonneg _
          have hq1 : (q : Int) < (n1 : Int) := by omega
          have t5 : IntKind.i64.wrap (nx : Int) = (nx : Int) := IntWalk.i64_in _ (by omega)
          have HST := Lib.hid hstep
          have CO : ∀ W : World, Below wA.heap.size wA W → Hid (Calls Tryz.prog 74 #[.agg #[.int .i64 (cu : Nat), .bool uo], .slice S ns cs] W fun e w' => e = .returned (.int .i64 (outN s cu uo : Nat)) ∧ Below W.heap.size W w') := fun W hb => goutgoing_any cu uo S ns cs s W (HSw.out.keep hb) hcu hns
          have CI : ∀ W : World, Below wA.heap.size wA W → Hid (Calls Tryz.prog 75 #[.agg #[.int .i64 (cv : Nat), .bool vo], .slice S ns cs] W fun e w' => e = .returned (.int .i64 (inN s cv vo : Nat)) ∧ Below W.heap.size W w') := fun W hb => gincoming_any cv vo S ns cs s W (HSw.out.keep hb) hcv' hns
          have o1n := outN_lt (s := s) uo hcu
          have i1n := inN_lt (s := s) vo hcv'
          have hne := outN_ne_inN s cu cv uo vo
          obtain ⟨x0, x1, x2, xlt⟩ := HD.out.keep hbq'
          have hM2 : mStep s ((cu : Int), uo) ((cv : Int), vo) (mRow s l (mAll s vss k) q) = upd (upd (mRow s l (mAll s vss k) q) (outN s cu uo) (inN s cv vo)) (inN s cv vo) (outN s cu uo) := rfl
          rw [hM2] at hstep
          have HST2 := Lib.hid hstep
          have HAQ := Lib.hid hAq
          clear hcv hnx hu hv hstep hAq iu0 iv0 hM2 HST
          go_upto_region 9 with fail
          have hbx : Below wr.heap.size wr ((wr.alloc (.cells #[.int .i64 (cu : Nat), .bool uo] 51)).alloc (.cells #[.int .i64 (cv : Nat), .bool vo] 51)) := below_step (below_alloc wr _) (below_alloc _ _)
          have b0 : ((wr.alloc (.cells #[.int .i64 (cu : Nat), .bool uo] 51)).alloc (.cells #[.int .i64 (cv : Nat), .bool vo] 51)).cell? ⟨wr.heap.size, 0, none⟩ = some (.int .i64 (cu : Nat)) := by
            rw [World.cell?_alloc_past _ _ _ (by simp), World.cell?_alloc_at _ _ _ _ rfl]; rfl
          have b1' : ((wr.alloc (.cells #[.int .i64 (cu : Nat), .bool uo] 51)).alloc (.cells #[.int .i64 (cv : Nat), .bool vo] 51)).cell? ⟨wr.heap.size, 1, none⟩ = some (.bool uo) := by
            rw [World.cell?_alloc_past _ _ _ (by simp), World.cell?_alloc_at _ _ _ _ rfl]; rfl
          have b2 : ((wr.alloc (.cells #[.int .i64 (cu : Nat), .bool uo] 51)).alloc (.cells #[.int .i64 (cv : Nat), .bool vo] 51)).cell? ⟨wr.heap.size + 1, 0, none⟩ = some (.int .i64 (cv : Nat)) := by
            rw [World.cell?_alloc_at _ _ _ _ (by simp)]; rfl
          have b3 : ((wr.alloc (.cells #[.int .i64 (cu : Nat), .bool uo] 51)).alloc (.cells #[.int .i64 (cv : Nat), .bool vo] 51)).cell? ⟨wr.heap.size + 1, 1, none⟩ = some (.bool vo) := by
            rw [World.cell?_alloc_at _ _ _ _ (by simp)]; rfl
          have hsx : ((wr.alloc (.cells #[.int .i64 (cu : Nat), .bool uo] 51)).alloc (.cells #[.int .i64 (cv : Nat), .bool vo] 51)).heap.size = wr.heap.size + 2 := by simp
          generalize (wr.alloc (.cells #[.int .i64 (cu : Nat), .bool uo] 51)).alloc (.cells #[.int .i64 (cv : Nat), .bool vo] 51) = wX at *
          obtain ⟨gU, hgU⟩ : ∃ g, wr.heap.size = g := ⟨_, rfl⟩
          obtain ⟨gV, hgV⟩ : ∃ g, gU + 1 = g := ⟨_, rfl⟩
          have k1 := (hbx.cell (p := ⟨w.heap.size, 1, none⟩) xlt).trans x1
          have klt := Nat.lt_of_lt_of_le xlt hbx.size
          have hbX := below_step hbq' hbx
          rw [hgU] at b0 b1' b2 b3 hsx ⊢
          rw [hgV] at b2 b3 ⊢
          have hUl : gU < wX.heap.size := by omega
          have hVl : gV < wX.heap.size := by omega
          have HBX := Lib.hid hbx
          have hMq : gM ≤ wr.heap.size := Nat.le_of_lt HAQ.out.lt
          clear hsx hgV hgU hbx x0 x1 x2 z0 z1 z2 z3
          have hbD : Below wX.heap.size wX wX.drew := (Below.refl _ _).drew
          go_region_held3 (fun w' => w'.cell? ⟨w.heap.size, 1, none⟩ = some (.slice S ns cs) ∧ (w'.cell? ⟨gU, 0, none⟩ = some (.int .i64 (cu : Nat)) ∧ w'.cell? ⟨gU, 1, none⟩ = some (.bool uo)) ∧ (w'.cell? ⟨gV, 0, none⟩ = some (.int .i64 (cv : Nat)) ∧ w'.cell? ⟨gV, 1, none⟩ = some (.bool vo)))
            (first
              | go_keep
              | with_reducible exact ⟨(hb6.cell (p := ⟨w.heap.size, 1, none⟩) klt).trans k1, ⟨(hb6.cell (p := ⟨gU, 0, none⟩) hUl).trans b0, (hb6.cell (p := ⟨gU, 1, none⟩) hUl).trans b1'⟩, ⟨(hb6.cell (p := ⟨gV, 0, none⟩) hVl).trans b2, (hb6.cell (p := ⟨gV, 1, none⟩) hVl).trans b3⟩⟩
              | with_reducible exact ⟨(hb5.cell (p := ⟨w.heap.size, 1, none⟩) klt).trans k1, ⟨(hb5.cell (p := ⟨gU, 0, none⟩) hUl).trans b0, (hb5.cell (p := ⟨gU, 1, none⟩) hUl).trans b1'⟩, ⟨(hb5.cell (p := ⟨gV, 0, none⟩) hVl).trans b2, (hb5.cell (p := ⟨gV, 1, none⟩) hVl).trans b3⟩⟩)
            (first
              | (go_at_call 74; ((with_reducible refine (CO _ (below_step hbX hbD)).out.mono ?_); rintro e w5 ⟨rfl, hb5'⟩; have hb5 := below_step hbD hb5'; clear hb5'))
              | (go_at_call 75; ((with_reducible refine (CI _ (below_step hbX hb5)).out.mono ?_); rintro e w6 ⟨rfl, hb6'⟩; have hb6 := below_step hb5 hb6'; clear hb6')))
          have hwq := below_step HBX.out hb6
          have hA6 := HAQ.out.keep hwq
          have hb6q : Below gM wA w6 := by have := below_step hbq' hwq; rw [HG.out] at this; exact this
          obtain ⟨ov, hov⟩ : ∃ ov, outN s cu uo = ov := ⟨_, rfl⟩
          obtain ⟨iw, hiw⟩ : ∃ iw, inN s cv vo = iw := ⟨_, rfl⟩
          rw [hov, hiw] at hne
          rw [hov] at o1n
          rw [hiw] at i1n
          rw [hov, hiw]
          have hAf := (hA6.seti ov iw).seti iw ov
          have y0 := hA6.cell ov o1n
          have y1 := hA6.cell iw i1n
          have g0 := hA6.frozen ov
          have g1 := hA6.frozen iw
          have HAF : Hid (Arr ((w6.setCell ⟨gM, ov, none⟩ (.int .i64 (iw : Nat))).setCell ⟨gM, iw, none⟩ (.int .i64 (ov : Nat))) gM 3 (4 * ns) (iv (mRow s l (mAll s vss k) (q + 1)))) := by
            rw [HST2.out, hov, hiw]; exact hAf
          have r1 : (ov : Int) < 4 * (ns : Int) := by omega
          have r2 : (iw : Int) < 4 * (ns : Int) := by omega
          have r3 : (0 : Int) ≤ (ov : Int) := Int.natCast_nonneg _
          have r4 : (0 : Int) ≤ (iw : Int) := Int.natCast_nonneg _
          clear hov hiw hAf hA6 b0 b1' b2 b3 k1 CO CI hb5 hb6 hwq hbD HBX HAQ
          generalize mRow s l (mAll s vss k) q ov = pv1 at y0
          generalize mRow s l (mAll s vss k) q iw = pv2 at y1
          have hne' : ¬ iw = ov := fun e => hne e.symm
          go_wp2
          go_roundw
          case rel => exact ⟨q + 1, by omega, by go_num, below_set (below_set hb6q (Nat.le_refl _) _) (Nat.le_refl _) _, HAF.out⟩
          case measure => simp [intOf]; omega
        · obtain rfl : n1 = q := by omega
          have hAe : Arr wr gM 3 (4 * ns) (iv (mAll s vss (k + 1))) := by rw [← HMN.out]; exact hAq
          have HAE := Lib.hid hAe
          clear hAq hAe hql hq
          go_wp2
          go_roundw
          case rel => exact ⟨k + 1, by omega, by go_num, hbq, HAE.out⟩
          case measure => simp [intOf]; omega
    · obtain rfl : k = nc := by omega
      have hwr : Below w.heap.size w wr := (hb0.trans (hbr.mono (by omega)))
      have HP := Lib.hid (show MatesPost w ns (mAll s vss k) (.returned (.slice (some ⟨gM, 0, none⟩) (4 * ns) (4 * ns))) wr from ⟨gM, by omega, rfl, hA, hwr⟩)
      clear hA hwr hlt hk
      go_wp2
      go_ret
      exact HP.out

end Go.Proofs.YtdacjnmfmhkpiaaGreatDoor

/- Walks of layer 2: signsValid, withinLimits, genus. -/
namespace Go.Proofs.YtdacjnmfmhkpiaaGreatDoor
open Go.RowKit

set_option maxHeartbeats 800000 in
theorem gbadsign_any (x : Int) (w : World) :
    Calls Tryz.prog 78 #[.int .i64 x] w fun e w' => e = .returned (.bool (!sgB x)) ∧ w = w' := by
  by_cases h1 : x = 1
  · subst h1
    go_enter Tryz.func78, Tryz.ntmps78
    go_wp2
    go_ret
    exact ⟨rfl, rfl⟩
  · have e1 : (x != 1) = true := by simp [h1]
    have e2 : (!sgB x) = (x != -1) := by simp [sgB, h1, bne]
    rw [e2]; clear e2 h1
    go_enter Tryz.func78, Tryz.ntmps78
    go_wp2
    go_ret
    exact ⟨rfl, rfl⟩

set_option maxHeartbeats 800000 in
theorem gindex_all (A : Option Addr) (n c : Nat) (xs : List Int) (w : World) (hs : RI w A n xs) (hn : n ≤ 1000000000000000) (hg : ∀ j, j < n → sgB (xs.getD j 0) = true) :
    Calls Tryz.prog 92 #[.slice A n c, .func (.func 78) #[] #[]] w fun e w' => e = .returned (.int .i64 (-1)) ∧ w = w' := by
  by_cases hn0 : n = 0
  · subst hn0
    clear hs hg
    go_enter Tryz.func92, Tryz.ntmps92
    go_wp2
    go_loop [5, 8] (fun _ i => i = .int .i64 (0 : Nat)) (fun _ _ => 0)
    case atStart => rfl
    case round =>
      obtain rfl := hrel
      go_wp2
      go_ret
      exact ⟨rfl, rfl⟩
  · obtain ⟨b, off, rfl, hb, hc⟩ := hs.2 (by omega)
    clear hs
    go_enter Tryz.func92, Tryz.ntmps92
    go_wp2
    go_loop [5, 8] (fun _ i => ∃ k : Nat, k ≤ n ∧ i = .int .i64 k) (fun _ i => n - (intOf i).toNat)
    case atStart => exact ⟨0, by omega, rfl⟩
    case round =>
      obtain ⟨k, hk, rfl⟩ := hrel
      by_cases hlt : k < n
      · have hcell := hc k hlt
        have hgk := hg k hlt
        clear hc hg
        generalize xs.getD k 0 = x at hcell hgk
        have HG := Lib.hid hgk
        clear hgk
        go_wp2_with (go_at_call 78; refine (gbadsign_any _ _).mono ?_; rintro e w' ⟨rfl, rfl⟩; rw [HG.out])
        go_round
        case rel => exact ⟨k + 1, by omega, by go_num⟩
        case measure => simp [intOf]; omega
      · clear hc hg
        go_wp2
        go_ret
        exact ⟨rfl, rfl⟩

set_option maxHeartbeats 800000 in
theorem gindex_bad (A : Option Addr) (n c j0 : Nat) (xs : List Int) (w : World) (hs : RI w A n xs) (hn : n ≤ 1000000000000000) (hj : j0 < n) (hg : ∀ j, j < j0 → sgB (xs.getD j 0) = true) (hbad : sgB (xs.getD j0 0) = false) :
    Calls Tryz.prog 92 #[.slice A n c, .func (.func 78) #[] #[]] w fun e w' => e = .returned (.int .i64 j0) ∧ w = w' := by
  obtain ⟨b, off, rfl, hb, hc⟩ := hs.2 (by omega)
  clear hs
  go_enter Tryz.func92, Tryz.ntmps92
  go_wp2
  go_loop [5, 8] (fun _ i => ∃ k : Nat, k ≤ j0 ∧ i = .int .i64 k) (fun _ i => n - (intOf i).toNat)
  case atStart => exact ⟨0, by omega, rfl⟩
  case round =>
    obtain ⟨k, hk, rfl⟩ := hrel
    have hlt : k < n := by omega
    have hcell := hc k hlt
    by_cases hlt : k < j0
    · have hgk := hg k hlt
      clear hc hg hbad
      generalize xs.getD k 0 = x at hcell hgk
      have HG := Lib.hid hgk
      clear hgk
      go_wp2_with (go_at_call 78; refine (gbadsign_any _ _).mono ?_; rintro e w' ⟨rfl, rfl⟩; rw [HG.out])
      go_round
      case rel => exact ⟨k + 1, by omega, by go_num⟩
      case measure => simp [intOf]; omega
    · obtain rfl : k = j0 := by omega
      clear hc hg
      generalize xs.getD k 0 = x at hcell hbad
      have HG := Lib.hid hbad
      clear hbad
      go_wp2_with (go_at_call 78; refine (gbadsign_any _ _).mono ?_; rintro e w' ⟨rfl, rfl⟩; rw [HG.out])
      go_ret
      exact ⟨rfl, rfl⟩

set_option maxHeartbeats 800000 in
theorem gcontains_any (A : Option Addr) (n c : Nat) (xs : List Int) (w : World) (hs : RI w A n xs) (hn : n ≤ 1000000000000000) :
    Calls Tryz.prog 70 #[.slice A n c, .func (.func 78) #[] #[]] w fun e w' => e = .returned (.bool (!sgnsB xs)) ∧ w = w' := by
  by_cases hg : ∀ j, j < n → sgB (xs.getD j 0) = true
  · have e : (!sgnsB xs) = false := by
      rw [(sgnsB_iff xs).2 (by rw [hs.1]; exact hg)]; rfl
    rw [e]; clear e
    go_enter Tryz.func70, Tryz.ntmps70
    go_wp2_with (go_at_call 92; refine (gindex_all _ _ _ xs _ hs hn hg).mono ?_; rintro e w' ⟨rfl, rfl⟩)
    go_ret
    exact ⟨rfl, rfl⟩
  · have e : (!sgnsB xs) = true := by
      cases h : sgnsB xs with
      | false => rfl
      | true => exact absurd (by rw [← hs.1]; exact (sgnsB_iff xs).1 h) hg
    rw [e]; clear e
    obtain ⟨j0, h1, h2, h3⟩ := least_bad (fun j => sgB (xs.getD j 0)) n hg
    clear hg
    have H2 := Lib.hid h2
    have H3 := Lib.hid h3
    clear h2 h3
    go_enter Tryz.func70, Tryz.ntmps70
    go_wp2_with (go_at_call 92; refine (gindex_bad _ _ _ j0 xs _ hs hn h1 H2.out H3.out).mono ?_; rintro e w' ⟨rfl, rfl⟩)
    go_ret
    exact ⟨rfl, rfl⟩

set_option maxHeartbeats 800000 in
theorem gsigns_any (A : Option Addr) (n c : Nat) (xs : List Int) (w : World) (hs : RI w A n xs) (hn : n ≤ 1000000000000000) :
    Calls Tryz.prog 49 #[.slice A n c] w fun e w' => e = .returned (.bool (sgnsB xs)) ∧ w = w' := by
  go_enter Tryz.func49, Tryz.ntmps49
  go_wp2_with (go_at_call 70; refine (gcontains_any _ _ _ xs _ hs hn).mono ?_; rintro e w' ⟨rfl, rfl⟩)
  go_ret
  exact ⟨ret_bool (by simp), rfl⟩

def glimB (ns : Nat) (lp : Int) : Bool := decide (ns ≤ 64) && decide (0 ≤ lp) && decide (lp ≤ 64)
set_option maxHeartbeats 800000 in
theorem glimits_any (A B : Option Addr) (nc cc ns cs : Nat) (lp : Int) (w : World) (hns : ns ≤ 1000000000000000) :
    Calls Tryz.prog 48 #[dval A nc cc B ns cs lp] w fun e w' => e = .returned (.bool (glimB ns lp)) ∧ Below w.heap.size w w' := by
  by_cases h1 : ns ≤ 64
  · by_cases h3 : 0 ≤ lp
    · by_cases h4 : lp ≤ 64
      · have e : glimB ns lp = true := by simp [glimB, *]
        rw [e]; clear e
        go_enter Tryz.func48, Tryz.ntmps48
        go_wp2
        go_ret
        exact ⟨rfl, below_alloc _ _⟩
      · have e : glimB ns lp = false := by simp [glimB, *]
        rw [e]; clear e
        have h4' : 64 < lp := by omega
        go_enter Tryz.func48, Tryz.ntmps48
        go_wp2
        go_ret
        exact ⟨rfl, below_alloc _ _⟩
    · have e : glimB ns lp = false := by simp [glimB, *]
      rw [e]; clear e
      have h4' : lp < 0 := by omega
      go_enter Tryz.func48, Tryz.ntmps48
      go_wp2
      go_ret
      exact ⟨rfl, below_alloc _ _⟩
  · have e : glimB ns lp = false := by simp [glimB, *]
    rw [e]; clear e
    have h4' : 64 < (ns : Int) := by omega
    go_enter Tryz.func48, Tryz.ntmps48
    go_wp2
    go_ret
    exact ⟨rfl, below_alloc _ _⟩

/-- The genus of mates. -/
def genM (m : Nat → Nat) (ns : Nat) : Int := (2 * (nRoots (ufAt m (4 * ns)) ns : Int) + ns - (cFst (ff m) (4 * ns) (4 * ns) : Nat)).tdiv 2
theorem tdiv_two (x : Int) (h : 0 ≤ x) : x.tdiv 2 = x / 2 := Int.tdiv_eq_ediv_of_nonneg h

set_option maxHeartbeats 1600000 in
set_option maxRecDepth 100000 in
theorem ggenus_any (A : Option Addr) (c ns : Nat) (mate : List Int) (m : Nat → Nat) (w : World) (hm : RI w A (4 * ns) mate) (hmm : Mates mate (4 * ns) m) (hp : Perm (ff m) (4 * ns)) (hns : ns ≤ 64) :
    Calls Tryz.prog 47 #[.slice A (4 * ns) c] w fun e w' => e = .returned (.int .i64 (genM m ns)) ∧ Below w.heap.size w w' := by
  have H1 := Lib.hid (cparts_any A (4 * ns) c ns mate m w hm hmm rfl hns)
  have H2 : ∀ w1 : World, Below w.heap.size w w1 → Hid (Calls Tryz.prog 77 #[.slice A (4 * ns) c] w1 fun e w' => e = .returned (.int .i64 (cFst (ff m) (4 * ns) (4 * ns) : Nat)) ∧ Below w1.heap.size w1 w') :=
    fun w1 hb => cfaces_any A (4 * ns) c mate m w1 (hm.keep hb) hmm hp (by omega)
  have hp1 := nRoots_le (ufAt m (4 * ns)) ns
  have hf1 := cFst_le (ff m) (4 * ns) (4 * ns)
  have hq : ((4 * ns : Nat) : Int).tdiv 4 = (ns : Int) := by rw [Int.tdiv_eq_ediv_of_nonneg (by omega)]; omega
  unfold genM
  generalize nRoots (ufAt m (4 * ns)) ns = p at *
  generalize cFst (ff m) (4 * ns) (4 * ns) = q at *
  clear hm hmm hp
  obtain ⟨nm, hnm⟩ : ∃ nm, nm = 4 * ns := ⟨_, rfl⟩
  rw [← hnm] at H1 H2 hf1 hq ⊢
  have hp2 : (p : Int) ≤ (ns : Int) := by omega
  have hq2 : (q : Int) ≤ (nm : Int) := by omega
  have hs2 : (nm : Int) = 4 * (ns : Int) := by omega
  have hq' : (nm : Int) / 4 = (ns : Int) := by omega
  have hnm256 : (nm : Int) ≤ 256 := by omega
  clear hnm hs2
  go_enter Tryz.func47, Tryz.ntmps47
  go_wp2_with (first
    | (go_at_call 76; ((with_reducible refine H1.out.mono ?_); rintro e w1 ⟨rfl, hb1⟩))
    | (go_at_call 77; ((with_reducible refine (H2 _ hb1).out.mono ?_); rintro e w2 ⟨rfl, hb2⟩)))
  go_ret
  exact ⟨rfl, below_step hb1 hb2⟩

end Go.Proofs.YtdacjnmfmhkpiaaGreatDoor

/- Walk: Valid of a code. -/
namespace Go.Proofs.YtdacjnmfmhkpiaaGreatDoor
open Go.RowKit

/-- A code is valid. -/
def gvalB (vss : List (List Vis)) (s : List Int) (lp : Int) : Bool := glimB s.length lp && sgnsB s && visB vss s.length
theorem glimB_out {ns : Nat} {lp : Int} (h : glimB ns lp = true) : ns ≤ 64 ∧ 0 ≤ lp ∧ lp ≤ 64 := by
  unfold glimB at h; simp only [Bool.and_eq_true, decide_eq_true_eq] at h; omega
abbrev cbox (C : Option Addr) (nc cc : Nat) (S : Option Addr) (ns cs : Nat) (lp : Int) : Obj := .cells #[.slice C nc cc, .slice S ns cs, .int .i64 lp] 28

set_option maxHeartbeats 1600000 in
theorem gvalid_any (C S : Option Addr) (nc cc ns cs : Nat) (lp : Int) (vss : List (List Vis)) (s : List Int) (w : World) (hC : RVV w C nc vss) (hS : RI w S ns s) (hns : ns ≤ 1000000) (hnc : nc ≤ 1000000) (hfl : vss.flatten.length ≤ 1000000) :
    Calls Tryz.prog 21 #[dval C nc cc S ns cs lp] w fun e w' => e = .returned (.bool (gvalB vss s lp)) ∧ Below w.heap.size w w' := by
  have hd := DB.newT w C nc cc S ns cs lp 28
  obtain ⟨d0, d1, d2, dlt⟩ := hd
  have hb0 := below_alloc w (cbox C nc cc S ns cs lp)
  have hs1 := hS.alloc (cbox C nc cc S ns cs lp)
  have hC1 := hC.keep hb0
  have hls := hS.1
  have HC1 := Lib.hid (glimits_any C S nc cc ns cs lp (w.alloc (cbox C nc cc S ns cs lp)) (by omega))
  have HC2 : ∀ w1 : World, Below (w.alloc (cbox C nc cc S ns cs lp)).heap.size (w.alloc (cbox C nc cc S ns cs lp)) w1 → Hid (Calls Tryz.prog 49 #[.slice S ns cs] w1 fun e w' => e = .returned (.bool (sgnsB s)) ∧ w1 = w') :=
    fun w1 hb => gsigns_any S ns cs s w1 (hs1.keep hb) (by omega)
  have HC3 : ∀ w1 : World, Below w.heap.size w w1 → Hid (Calls Tryz.prog 50 #[dval C nc cc S ns cs lp] w1 fun e w' => e = .returned (.bool (visB vss ns)) ∧ Below w1.heap.size w1 w') :=
    fun w1 hb => once_any C S nc cc ns cs lp vss w1 (hC.keep hb) hns hnc hfl
  have hv : gvalB vss s lp = (glimB ns lp && sgnsB s && visB vss ns) := by unfold gvalB; rw [hls]
  rw [hv]
  clear hv hls hC hS hs1 hC1 hfl
  cases h1 : glimB ns lp with
  | false =>
    simp only [Bool.false_and]
    rw [h1] at HC1
    clear h1
    go_enter Tryz.func21, Tryz.ntmps21
    go_wp2_with (go_at_call 48; ((with_reducible refine HC1.out.mono ?_); rintro e w1 ⟨rfl, hb1⟩))
    go_ret
    exact ⟨rfl, below_step hb0 hb1⟩
  | true =>
    rw [h1] at HC1
    simp only [Bool.true_and]
    cases h2 : sgnsB s with
    | false =>
      simp only [Bool.false_and]
      rw [h2] at HC2
      clear h1 h2
      go_enter Tryz.func21, Tryz.ntmps21
      go_wp2_with (first
        | (go_at_call 48; ((with_reducible refine HC1.out.mono ?_); rintro e w1 ⟨rfl, hb1⟩; have hc0 := (hb1.cell (p := ⟨w.heap.size, 0, none⟩) dlt).trans d0; have hc1 := (hb1.cell (p := ⟨w.heap.size, 1, none⟩) dlt).trans d1; have hc2 := (hb1.cell (p := ⟨w.heap.size, 2, none⟩) dlt).trans d2))
        | (go_at_call 49; ((with_reducible refine (HC2 _ hb1).out.mono ?_); rintro e w2 ⟨rfl, rfl⟩)))
      go_ret
      exact ⟨rfl, below_step hb0 hb1⟩
    | true =>
      rw [h2] at HC2
      simp only [Bool.true_and]
      clear h1 h2
      go_enter Tryz.func21, Tryz.ntmps21
      go_wp2_with (first
        | (go_at_call 48; ((with_reducible refine HC1.out.mono ?_); rintro e w1 ⟨rfl, hb1⟩; have hc0 := (hb1.cell (p := ⟨w.heap.size, 0, none⟩) dlt).trans d0; have hc1 := (hb1.cell (p := ⟨w.heap.size, 1, none⟩) dlt).trans d1; have hc2 := (hb1.cell (p := ⟨w.heap.size, 2, none⟩) dlt).trans d2))
        | (go_at_call 49; ((with_reducible refine (HC2 _ hb1).out.mono ?_); rintro e w2 ⟨rfl, rfl⟩))
        | (go_at_call 50; ((with_reducible refine (HC3 _ (below_step hb0 hb1)).out.mono ?_); rintro e w3 ⟨rfl, hb3⟩)))
      go_ret
      exact ⟨rfl, below_step hb0 (below_step hb1 hb3)⟩

end Go.Proofs.YtdacjnmfmhkpiaaGreatDoor

/- The mates of a valid code are an involution; plain. -/
namespace Go.Proofs.YtdacjnmfmhkpiaaGreatDoor

/-- Mates, pair by pair. -/
def app : List (Nat × Nat) → (Nat → Nat) → Nat → Nat
  | [], M => M
  | p :: L, M => app L (upd (upd M p.1 p.2) p.2 p.1)
def keys : List (Nat × Nat) → List Nat
  | [] => []
  | p :: L => p.1 :: p.2 :: keys L
theorem app_append (L K : List (Nat × Nat)) (M : Nat → Nat) : app (L ++ K) M = app K (app L M) := by
  induction L generalizing M with
  | nil => rfl
  | cons p L ih => exact ih _
theorem app_other (L : List (Nat × Nat)) (M : Nat → Nat) (h : Nat) (hn : h ∉ keys L) : app L M h = M h := by
  induction L generalizing M with
  | nil => rfl
  | cons p L ih =>
    simp only [keys, List.mem_cons, not_or] at hn
    show app L _ h = M h
    rw [ih _ hn.2.2, upd_other _ _ _ _ hn.2.1, upd_other _ _ _ _ hn.1]
theorem app_spec (L : List (Nat × Nat)) (M : Nat → Nat) (hk : (keys L).Nodup) (p : Nat × Nat) (hp : p ∈ L) : app L M p.1 = p.2 ∧ app L M p.2 = p.1 := by
  induction L generalizing M with
  | nil => cases hp
  | cons q L ih =>
    simp only [keys, List.nodup_cons, List.mem_cons, not_or] at hk
    obtain ⟨⟨h1, h2⟩, h3, h4⟩ := hk
    rcases List.mem_cons.1 hp with e | hp
    · subst e
      refine ⟨?_, ?_⟩
      · show app L _ p.1 = p.2
        rw [app_other _ _ _ h2, upd_other _ _ _ _ h1, upd_same]
      · show app L _ p.2 = p.1
        rw [app_other _ _ _ h3, upd_same]
    · exact ih _ h4 hp
theorem keys_perm (L : List (Nat × Nat)) : (keys L).Perm (L.map Prod.fst ++ L.map Prod.snd) := by
  induction L with
  | nil => exact List.Perm.refl _
  | cons p L ih =>
    simp only [keys, List.map_cons, List.cons_append]
    refine List.Perm.cons _ ?_
    exact (List.Perm.cons _ ih).trans (List.perm_middle.symm)

def outV (s : List Int) (v : Vis) : Nat := outN s v.1.toNat v.2
def inV (s : List Int) (v : Vis) : Nat := inN s v.1.toNat v.2
def pairsTo (s : List Int) (l : List Vis) (i : Nat) : List (Nat × Nat) := (List.range i).map fun i => (outV s (l.getD i v0), inV s (l.getD ((i + 1) % l.length) v0))
def pairsRow (s : List Int) (l : List Vis) : List (Nat × Nat) := pairsTo s l l.length
theorem mRow_app (s : List Int) (l : List Vis) (M : Nat → Nat) (i : Nat) : mRow s l M i = app (pairsTo s l i) M := by
  induction i with
  | zero => rfl
  | succ i ih =>
    unfold pairsTo
    rw [List.range_succ, List.map_append, app_append]
    have ih' : mRow s l M i = app ((List.range i).map fun i => (outV s (l.getD i v0), inV s (l.getD ((i + 1) % l.length) v0))) M := ih
    rw [← ih']
    rfl
theorem mAll_app (s : List Int) (vss : List (List Vis)) (j : Nat) (hj : j ≤ vss.length) : mAll s vss j = app ((vss.take j).flatMap (pairsRow s)) (fun _ => 0) := by
  induction j with
  | zero => rfl
  | succ j ih =>
    rw [take_succ_getD vss [] j (by omega), List.flatMap_append, app_append, ← ih (by omega)]
    show mRow s (vss.getD j []) (mAll s vss j) (vss.getD j []).length = _
    rw [mRow_app]
    simp [pairsRow]
/-- The row, one further on. -/
def rot (l : List Vis) : List Vis := (List.range l.length).map fun i => l.getD ((i + 1) % l.length) v0
theorem rot_cons (a : Vis) (t : List Vis) : rot (a :: t) = t ++ [a] := by
  apply List.ext_getElem
  · simp [rot]
  · intro i h1 h2
    have hi : i < t.length + 1 := by simpa [rot] using h1
    simp only [rot, List.getElem_map, List.getElem_range, List.length_cons]
    rcases Nat.lt_or_ge i t.length with h | h
    · rw [Nat.mod_eq_of_lt (by omega), List.getElem_append_left h]
      simp [List.getD, h]
    · obtain rfl : i = t.length := by omega
      simp [Nat.mod_self, List.getD]
theorem rot_perm (l : List Vis) : (rot l).Perm l := by
  cases l with
  | nil => exact List.Perm.refl _
  | cons a t => rw [rot_cons]; exact List.perm_append_singleton a t
theorem range_getD (l : List Vis) : (List.range l.length).map (fun i => l.getD i v0) = l := by
  apply List.ext_getElem
  · simp
  · intro i h1 h2
    simp [List.getD, h2]
theorem row_fst (s : List Int) (l : List Vis) : (pairsRow s l).map Prod.fst = l.map (outV s) := by
  unfold pairsRow pairsTo
  rw [List.map_map]
  have : (Prod.fst ∘ fun i => (outV s (l.getD i v0), inV s (l.getD ((i + 1) % l.length) v0))) = outV s ∘ fun i => l.getD i v0 := rfl
  rw [this, ← List.map_map, range_getD]
theorem row_snd (s : List Int) (l : List Vis) : ((pairsRow s l).map Prod.snd).Perm (l.map (inV s)) := by
  unfold pairsRow pairsTo
  rw [List.map_map]
  have : (Prod.snd ∘ fun i => (outV s (l.getD i v0), inV s (l.getD ((i + 1) % l.length) v0))) = inV s ∘ fun i => l.getD ((i + 1) % l.length) v0 := rfl
  rw [this, ← List.map_map]
  exact (rot_perm l).map _
theorem all_fst (s : List Int) (vss : List (List Vis)) : (vss.flatMap (pairsRow s)).map Prod.fst = vss.flatten.map (outV s) := by
  induction vss with
  | nil => rfl
  | cons l vss ih => rw [List.flatMap_cons, List.map_append, ih, row_fst, List.flatten_cons, List.map_append]
theorem all_snd (s : List Int) (vss : List (List Vis)) : ((vss.flatMap (pairsRow s)).map Prod.snd).Perm (vss.flatten.map (inV s)) := by
  induction vss with
  | nil => exact List.Perm.refl _
  | cons l vss ih =>
    rw [List.flatMap_cons, List.map_append, List.flatten_cons, List.map_append]
    exact (row_snd s l).append ih
theorem outN_inj {s : List Int} {c d : Nat} {o p : Bool} (h : outN s c o = outN s d p) : c = d ∧ o = p := by
  unfold outN at h
  cases o <;> cases p <;> simp only [if_true, if_false, Bool.true_eq_false] at h
  · exact ⟨by omega, rfl⟩
  · split at h <;> omega
  · split at h <;> omega
  · refine ⟨?_, rfl⟩
    split at h <;> split at h <;> omega
theorem inN_inj {s : List Int} {c d : Nat} {o p : Bool} (h : inN s c o = inN s d p) : c = d ∧ o = p := by
  unfold inN at h
  cases o <;> cases p <;> simp only [if_true, if_false, Bool.true_eq_false] at h
  · exact ⟨by omega, rfl⟩
  · split at h <;> omega
  · split at h <;> omega
  · refine ⟨?_, rfl⟩
    split at h <;> split at h <;> omega
theorem vis_eq {u v : Vis} (hu : 0 ≤ u.1) (hv : 0 ≤ v.1) (h1 : u.1.toNat = v.1.toNat) (h2 : u.2 = v.2) : u = v := Prod.ext (by omega) h2
/-- The half-edges of a valid code, in the order in which they get their mates. -/
theorem all_keys {vss : List (List Vis)} {n : Nat} (s : List Int) (hv : visB vss n = true) :
    (keys (vss.flatMap (pairsRow s))).Nodup ∧ (∀ h ∈ keys (vss.flatMap (pairsRow s)), h < 4 * n) ∧ ∀ h, h < 4 * n → h ∈ keys (vss.flatMap (pairsRow s)) := by
  obtain ⟨_, ⟨hnd, hr⟩, hl⟩ := (visB_iff _ _).1 hv
  have hp := (keys_perm (vss.flatMap (pairsRow s))).trans ((List.Perm.refl _).append (all_snd s vss))
  rw [all_fst] at hp
  have h1 : (vss.flatten.map (outV s) ++ vss.flatten.map (inV s)).Nodup := by
    refine List.nodup_append.2 ⟨?_, ?_, ?_⟩
    · refine List.pairwise_map.2 (List.Pairwise.imp_of_mem (fun {a b} ha hb hab e => hab ?_) hnd)
      have := outN_inj e
      exact vis_eq (hr a ha).1 (hr b hb).1 this.1 this.2
    · refine List.pairwise_map.2 (List.Pairwise.imp_of_mem (fun {a b} ha hb hab e => hab ?_) hnd)
      have := inN_inj e
      exact vis_eq (hr a ha).1 (hr b hb).1 this.1 this.2
    · intro a ha b hb e
      obtain ⟨u, _, rfl⟩ := List.mem_map.1 ha
      obtain ⟨v, _, rfl⟩ := List.mem_map.1 hb
      exact outN_ne_inN s _ _ _ _ e
  have h2 : (keys (vss.flatMap (pairsRow s))).Nodup := hp.nodup_iff.2 h1
  have h3 : ∀ h ∈ keys (vss.flatMap (pairsRow s)), h < 4 * n := fun h hh => by
    rcases List.mem_append.1 (hp.mem_iff.1 hh) with hh | hh
    · obtain ⟨v, hv, rfl⟩ := List.mem_map.1 hh
      have := hr v hv
      exact outN_lt _ (by omega)
    · obtain ⟨v, hv, rfl⟩ := List.mem_map.1 hh
      have := hr v hv
      exact inN_lt _ (by omega)
  refine ⟨h2, h3, fun h hh => ?_⟩
  refine Decidable.byContradiction fun hn => ?_
  have := Go.nodup_lt_length (4 * n) (h :: keys (vss.flatMap (pairsRow s))) (List.nodup_cons.2 ⟨hn, h2⟩) (fun x hx => by
    rcases List.mem_cons.1 hx with e | hx
    · subst e; exact hh
    · exact h3 x hx)
  have hlen := hp.length_eq
  rw [List.length_append, List.length_map, List.length_map] at hlen
  rw [List.length_cons] at this
  omega
theorem mem_keys {L : List (Nat × Nat)} {h : Nat} (hh : h ∈ keys L) : ∃ p ∈ L, h = p.1 ∨ h = p.2 := by
  induction L with
  | nil => cases hh
  | cons p L ih =>
    simp only [keys, List.mem_cons] at hh
    rcases hh with e | e | hh
    · exact ⟨p, by simp, .inl e⟩
    · exact ⟨p, by simp, .inr e⟩
    · obtain ⟨q, hq, e⟩ := ih hh
      exact ⟨q, by simp [hq], e⟩
theorem keys_mem {L : List (Nat × Nat)} {p : Nat × Nat} (hp : p ∈ L) : p.1 ∈ keys L ∧ p.2 ∈ keys L := by
  induction L with
  | nil => cases hp
  | cons q L ih =>
    simp only [keys, List.mem_cons]
    rcases List.mem_cons.1 hp with e | hp
    · subst e; exact ⟨.inl rfl, .inr (.inl rfl)⟩
    · exact ⟨.inr (.inr (ih hp).1), .inr (.inr (ih hp).2)⟩
theorem mAll_invol {vss : List (List Vis)} {n : Nat} (s : List Int) (hv : visB vss n = true) : Invol (mAll s vss vss.length) (4 * n) := by
  obtain ⟨h1, h2, h3⟩ := all_keys s hv
  rw [mAll_app _ _ _ (Nat.le_refl _), List.take_length]
  constructor
  · intro h hh
    obtain ⟨p, hp, e⟩ := mem_keys (h3 h hh)
    obtain ⟨e1, e2⟩ := app_spec _ (fun _ => 0) h1 p hp
    rcases e with rfl | rfl
    · rw [e1]; exact h2 _ (keys_mem hp).2
    · rw [e2]; exact h2 _ (keys_mem hp).1
  · intro h hh
    obtain ⟨p, hp, e⟩ := mem_keys (h3 h hh)
    obtain ⟨e1, e2⟩ := app_spec _ (fun _ => 0) h1 p hp
    rcases e with rfl | rfl
    · rw [e1, e2]
    · rw [e2, e1]
/-- The mates along a valid code: a visit's outgoing half-edge and the next one's incoming. -/
theorem mAll_pair {vss : List (List Vis)} {n : Nat} (s : List Int) (hv : visB vss n = true) {p : Nat × Nat} (hp : p ∈ vss.flatMap (pairsRow s)) : mAll s vss vss.length p.1 = p.2 ∧ mAll s vss vss.length p.2 = p.1 := by
  rw [mAll_app _ _ _ (Nat.le_refl _), List.take_length]
  exact app_spec _ _ (all_keys s hv).1 p hp
/-- The list of the mates. -/
def mateL (s : List Int) (vss : List (List Vis)) : List Int := (List.range (4 * s.length)).map fun h => (mAll s vss vss.length h : Int)
theorem mateL_mates {vss : List (List Vis)} (s : List Int) (hv : visB vss s.length = true) : Mates (mateL s vss) (4 * s.length) (mAll s vss vss.length) := fun h hh => by
  refine ⟨?_, (mAll_invol s hv).lt h hh⟩
  simp [mateL, List.getD, hh]

end Go.Proofs.YtdacjnmfmhkpiaaGreatDoor
