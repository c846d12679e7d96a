import Derived.Test.YtdacjnmfmhkpiaaGreatDoorD16
import Derived.Test.YtdacjnmfmhkpiaaGreatDoorD05
import Derived.Test.YtdacjnmfmhkpiaaGreatDoorD12
/- Walk: read, of the words of a code's text. -/
namespace Go.Proofs.YtdacjnmfmhkpiaaGreatDoor
open Go.ChangeShapes Go.WideShapes Go.ChangeAt Go.RowKit Go.Maps

/-- Block g holds the words ws. -/
def WB (w : World) (g : Nat) (ws : List (List UInt8)) : Prop := g < w.heap.size ∧ ∀ k, k < ws.length → w.cell? ⟨g, k, none⟩ = some (strV (ws.getD k []))
theorem WB.keep {w w' : World} {g : Nat} {ws : List (List UInt8)} (h : WB w g ws) (hb : Below w.heap.size w w') : WB w' g ws :=
  ⟨Nat.lt_of_lt_of_le h.1 hb.size, fun k hk => (hb.cell (p := ⟨g, k, none⟩) h.1).trans (h.2 k hk)⟩
def ReadPost (vss : List (List Vis)) (s : List Int) (lp : Int) (ns : Nat) (w : World) (e : Ending) (w' : World) : Prop :=
  ∃ C cc S cs vals, e = .returned (.tuple #[dval C vss.length cc S ns cs lp, .bool true]) ∧ VR w' w.heap.size 49 51 (.slice C vss.length cc) vals vss ∧ OI w' w.heap.size (.slice S ns cs) s ∧ Below w.heap.size w w'
theorem VEl.mono {w : World} {B B' : Nat} {te : TypeId} {A : Option Addr} {n : Nat} {l : List Vis} (h : VEl w B te A n l) (hB : B' ≤ B) : VEl w B' te A n l := ⟨h.1, fun b off e => ⟨Nat.le_trans hB (h.2 b off e).1, (h.2 b off e).2⟩⟩
theorem VR.mono {w : World} {B B' : Nat} {tr te : TypeId} {v : Value} {vals : List Value} {vss : List (List Vis)} (h : VR w B tr te v vals vss) (hB : B' ≤ B) : VR w B' tr te v vals vss := by
  obtain ⟨h1, h2, h3⟩ := h
  refine ⟨⟨h1.1, h1.2.imp id ?_⟩, h2, fun i hi => ?_⟩
  · rintro ⟨g, cap, cur, h4, h5, h6⟩
    exact ⟨g, cap, cur, h4, by omega, h6⟩
  · obtain ⟨A, n, c, h4, h5⟩ := h3 i hi
    exact ⟨A, n, c, h4, h5.mono hB⟩
theorem VR.grown {w w' : World} {B gB : Nat} {tr te : TypeId} {v : Value} {vals : List Value} {vss : List (List Vis)} (h : VR w B tr te v vals vss) (hg : w.grownBy w' (some gB)) (hlt : gB < B) : VR w' B tr te v vals vss :=
  h.move fun b hb hx => by
    obtain ⟨cs, t, fz, hx⟩ := hx
    exact hg.block b (Array.getElem?_eq_some_iff.1 hx).1 (fun e => by have := Option.some.inj e; omega)
theorem DB.grown {w w' : World} {g q : Nat} {A : Option Addr} {ns cs : Nat} {B : Option Addr} {nm cm : Nat} {lp : Int} (h : DB w g A ns cs B nm cm lp) (hg : w.grownBy w' (some q)) (hne : g ≠ q) : DB w' g A ns cs B nm cm lp := by
  have hn : ∀ i, some (⟨g, i, none⟩ : Addr).block ≠ some q := fun i e => by injection e with e; exact hne e
  exact ⟨World.grownBy.cell hg h.1 (hn 0), World.grownBy.cell hg h.2.1 (hn 1), World.grownBy.cell hg h.2.2.1 (hn 2), Nat.lt_of_lt_of_le h.2.2.2 hg.size⟩
theorem froz_grown {w w' : World} {g q : Nat} (hlt : g < w.heap.size) (h : ∀ i, w.frozen? ⟨g, i, none⟩ = false) (hg : w.grownBy w' (some q)) (hne : g ≠ q) : ∀ i, w'.frozen? ⟨g, i, none⟩ = false := fun i => by
  have h3 := h i
  have h4 := hg.block g hlt (fun e => by injection e with e; exact hne e)
  unfold World.frozen? at h3 ⊢
  rw [h4]; exact h3
/-- One sequence more. -/
theorem row_round {wr w5 : World} {B : Nat} {tr te : TypeId} (hte : te ≠ tr) {Ak A5 S Av : Option Addr} {k ck c5 ns sc gB nv cv : Nat} {lp : Int} {vals : List Value} {vss : List (List Vis)} {l : List Vis} {o : Obj} (hB : gB < B)
    (hfr : ∀ i, wr.frozen? ⟨gB, i, none⟩ = false) (hdb : DB wr gB Ak k ck S ns sc lp) (hrow : VR wr B tr te (.slice Ak k ck) vals (vss.take k)) (hk : k < vss.length) (hl : vss.getD k [] = l)
    (hv : VEl wr B te Av nv l) (hBw : B ≤ wr.heap.size)
    (hrow5 : ownRow w5 B tr (.slice A5 (k + 1) c5) (vals ++ [.slice Av nv cv])) (hg5 : (wr.alloc o).grownBy w5 (Value.slice Ak k ck).ownBlock) :
    (∀ i, (w5.setCell ⟨gB, 0, none⟩ (.slice A5 (k + 1) c5)).frozen? ⟨gB, i, none⟩ = false) ∧
    DB (w5.setCell ⟨gB, 0, none⟩ (.slice A5 (k + 1) c5)) gB A5 (k + 1) c5 S ns sc lp ∧ VR (w5.setCell ⟨gB, 0, none⟩ (.slice A5 (k + 1) c5)) B tr te (.slice A5 (k + 1) c5) (vals ++ [.slice Av nv cv]) (vss.take (k + 1)) := by
  obtain ⟨y0, y1, y2, ylt⟩ := hdb
  have hb4 := Below.refl wr.heap.size wr
  have h45 := hgrown5 hb4 hg5
  have hlt5 : gB < w5.heap.size := Nat.lt_of_lt_of_le ylt h45.size
  refine ⟨fun i => ?_, ⟨?_, ?_, ?_, by simp [World.setCell]; exact hlt5⟩, ?_⟩
  · simp [hfroz5 hb4 hg5 ylt (hfr i) hrow.1 hB hBw]
  · exact World.cell?_setCell_same _ _ _ (hcell5i hb4 hg5 y0 hrow.1 hB)
  · rw [World.cell?_setCell_other _ _ _ _ (by simp)]; exact hcell5i hb4 hg5 y1 hrow.1 hB
  · rw [World.cell?_setCell_other _ _ _ _ (by simp)]; exact hcell5i hb4 hg5 y2 hrow.1 hB
  · rw [take_succ_getD vss [] k hk, hl]
    exact (hrow.snoc hv hrow5 hg5 hte).set hB _
theorem gw_left {vss : List (List Vis)} {s : List Int} {m k : Nat} (h : k < vss.length) : (gWords vss s m).getD k [] = lTxt s (vss.getD k []) := by
  unfold gWords
  have h1 : k < (vss.map (lTxt s)).length := by simpa using h
  simp [List.getD, List.getElem?_append_left h1, h]
theorem gw_right {vss : List (List Vis)} {s : List Int} {m k : Nat} (h : vss.length ≤ k) (h2 : k < vss.length + m) : (gWords vss s m).getD k [] = [42] := by
  unfold gWords
  have h1 : (vss.map (lTxt s)).length ≤ k := by simpa using h
  rw [List.getD_eq_getElem?_getD, List.getElem?_append_right h1, List.getElem?_replicate, List.length_map, if_pos (by omega)]
  rfl
theorem gw_len (vss : List (List Vis)) (s : List Int) (m : Nat) : (gWords vss s m).length = vss.length + m := by unfold gWords; simp

abbrev zbox : Obj := .cells #[.slice none 0 0, .slice none 0 0, .int .i64 0] 28
theorem heap_sz (w : World) (o : Obj) : (w.alloc o).heap.size = w.heap.size + 1 := by simp

set_option maxHeartbeats 3200000 in
set_option maxRecDepth 100000 in
theorem read_any (g m N ns : Nat) (vss : List (List Vis)) (s : List Int) (w : World) (hws : WB w g (gWords vss s m)) (hN : N = vss.length + m) (hv : gvalB vss s (m : Int) = true) (hns : s.length = ns) :
    Calls Tryz.prog 58 #[.slice (some ⟨g, 0, none⟩) N N] w (ReadPost vss s (m : Int) ns w) := by
  have hmm := @run_makeMap Tryz.prog
  have G := Lib.hid (gv_facts hv)
  have hm64 : m ≤ 64 := by have := G.out.lp1; omega
  have hlf := len_flat G.out.ne
  have hfl := G.out.len
  have hle := G.out.le
  have hb1 := below_alloc w zbox
  have hr := DB.newT w none 0 0 none 0 0 0 28
  have hrf : ∀ i, (w.alloc zbox).frozen? ⟨w.heap.size, i, none⟩ = false := fun i => World.frozen?_alloc_at _ _ _ _ rfl
  have hsz := heap_sz w zbox
  obtain ⟨nc, hnc⟩ : ∃ nc, vss.length = nc := ⟨_, rfl⟩
  have HNC := Lib.hid hnc
  have HNS := Lib.hid hns
  rw [hnc] at hN hlf
  have hncl : nc ≤ 128 := by omega
  have hNl : N ≤ 200 := by omega
  have HN := Lib.hid hN
  have HV := Lib.hid hv
  have HWS := Lib.hid hws
  have hns64 : ns ≤ 64 := by omega
  clear hnc hns hN hv hws hlf hfl hle
  go_enter Tryz.func58, Tryz.ntmps58
  go_upto_region 1 with fail
  generalize w.alloc zbox = wA at hb1 hr hrf hsz ⊢
  obtain ⟨g1, hg1⟩ : ∃ g1, w.heap.size = g1 := ⟨_, rfl⟩
  have hb1' := hb1
  rw [hg1] at hr hrf hsz ⊢
  obtain ⟨r0, r1, r2, rlt⟩ := hr
  have hn := DB.newT wA none 0 0 none 0 0 0 28
  have hnf : ∀ i, (wA.alloc zbox).frozen? ⟨wA.heap.size, i, none⟩ = false := fun i => World.frozen?_alloc_at _ _ _ _ rfl
  have hbn := below_alloc wA zbox
  have hszB := heap_sz wA zbox
  obtain ⟨gB, hgB⟩ : ∃ gB, wA.heap.size = gB := ⟨_, rfl⟩
  have HGB := Lib.hid hgB
  have hg1B : g1 < gB := by omega
  rw [hgB] at hn hnf hbn hszB
  have HRF := Lib.hid hrf
  have HG1 := Lib.hid hg1
  clear hrf hgB hsz hg1
  go_upto_region 2 with fail
  rw [HGB.out]
  generalize wA.alloc zbox = wB at hn hnf hbn hszB ⊢
  have hmp : (wB.alloc (.map #[] 0)).ownsMap Tryz.prog 3 (plainElem Tryz.prog 3) wB.heap.size 0 (DataW.map [] : DataW Unit) := World.ownsMap_made _ _ _ _
  have hbM := below_alloc wB (.map #[] 0)
  have hszC := heap_sz wB (.map #[] 0)
  have hnC := hn.keep hbM
  have hnfC : ∀ i, (wB.alloc (.map #[] 0)).frozen? ⟨gB, i, none⟩ = false := fun i => (hbM.frozen (p := ⟨gB, i, none⟩) hn.2.2.2).trans (hnf i)
  obtain ⟨gM, hgM⟩ : ∃ gM, wB.heap.size = gM := ⟨_, rfl⟩
  have hgBM : gB < gM := by omega
  have hbC : Below gB wA (wB.alloc (.map #[] 0)) := hbn.alloc (by omega) _
  rw [hgM] at hmp hszC
  have HGM := Lib.hid hgM
  clear hgM hn hnf hbn hszB hbM
  go_upto_region 3 with fail
  rw [HGM.out]
  generalize wB.alloc (.map #[] 0) = wC at hmp hnC hnfC hbC hszC ⊢
  clear hmm HGM
  have hv0 : VR wC (gM + 1) 49 51 (.slice none 0 0) [] (vss.take 0) := ⟨World.ownsRow_nil wC _ _ _, rfl, fun i hi => absurd hi (by simp)⟩
  have hds0 : DS s (DataW.map [] : DataW Unit) ((vss.take 0).flatten) := DS.empty s
  have HMP := Lib.hid hmp
  have HDS0 := Lib.hid hds0
  have HNB := Lib.hid hnC
  have HNF := Lib.hid hnfC
  clear hmp hds0 hnC hnfC
  go_wp2
  go_loopw [7, 8, 9, 14] (fun _ _ _ i wr => ∃ k : Nat, k ≤ N ∧ i = .int .i64 k ∧ Below gB wA wr ∧ (∀ i, wr.frozen? ⟨gB, i, none⟩ = false) ∧ gM < wr.heap.size ∧ ∃ Ak ck vals D n0, DB wr gB Ak (min k nc) ck none 0 0 ((k - nc : Nat) : Int) ∧ VR wr (gM + 1) 49 51 (.slice Ak (min k nc) ck) vals (vss.take k) ∧ n0 = ((vss.take k).flatten).length ∧ wr.ownsMap Tryz.prog 3 (plainElem Tryz.prog 3) gM n0 D ∧ DS s D ((vss.take k).flatten)) (fun _ _ _ i _ => N - (intOf i).toNat)
  case atStart => exact ⟨0, by omega, rfl, hbC, HNF.out, by omega, none, 0, [], _, 0, by simpa using HNB.out, by simpa using hv0, by simp, HMP.out, HDS0.out⟩
  case round =>
    obtain ⟨k, hk, rfl, hbr, hfr, hMlt, Ak, ck, vals, D, n0, hdb, hrow, hn0, hmap, hDS⟩ := hrel
    have hk0 : (0 : Int) ≤ (k : Int) := Int.natCast_nonneg _
    have hbr' : Below wA.heap.size wA wr := by rw [HGB.out]; exact hbr
    have hbw := below_step hb1' hbr'
    by_cases hlt : k < N
    · have hk1 : (k : Int) < (N : Int) := by omega
      obtain ⟨hgw, hcw⟩ := HWS.out.keep hbw
      have hcel := hcw k (by rw [gw_len, HNC.out]; have := HN.out; omega)
      by_cases hkc : k < nc
      · have hkl : k < vss.length := by rw [HNC.out]; exact hkc
        rw [gw_left hkl] at hcel
        obtain ⟨l, hl⟩ : ∃ l, vss.getD k [] = l := ⟨_, rfl⟩
        rw [hl] at hcel
        have hlm : l ∈ vss := by
          have e : vss.getD k [] = vss[k] := by simp [List.getD, hkl]
          rw [← hl, e]; exact List.getElem_mem hkl
        obtain ⟨y, r, hyr, hy⟩ := lTxt_first s l (G.out.ne l hlm)
        have hwd : ((ByteArray.mk (lTxt s l).toArray).toList == [42]) = false := by
          rw [ByteArray.toList_eq, beq_eq_false_iff_ne]
          intro e
          simp only at e
          rw [hyr] at e
          injection e with e _
          rcases hy with rfl | rfl <;> revert e <;> decide
        have hrng : ∀ v ∈ l, 0 ≤ v.1 ∧ v.1 < 64 := fun v hv => by have := G.out.rng v (mem_flat hlm hv); have := G.out.le; omega
        have hsgn : ∀ v ∈ l, s.getD v.1.toNat 0 = 1 ∨ s.getD v.1.toNat 0 = -1 := fun v hv => by
          have h1 := G.out.rng v (mem_flat hlm hv)
          have h2 := (sgnsB_iff _).1 G.out.sg v.1.toNat (by omega)
          unfold sgB at h2
          simpa using h2
        have hmin : min k nc = k := by omega
        have hsub : k - nc = 0 := by omega
        rw [hmin, hsub] at hdb
        rw [hmin] at hrow
        have hfs : (vss.take (k + 1)).flatten = (vss.take k).flatten ++ l := by rw [flat_take_succ hkl, hl]
        have hlen : n0 + l.length ≤ 100000 := by
          have h1 : (vss.take (k + 1)).flatten.length ≤ vss.flatten.length := by
            have e3 : vss.flatten = (vss.take (k + 1)).flatten ++ (vss.drop (k + 1)).flatten := by rw [← List.flatten_append, List.take_append_drop]
            rw [e3, List.length_append]; omega
          rw [hfs, List.length_append, ← hn0] at h1
          have := G.out.len
          have := G.out.le
          omega
        have CR : Hid (Calls Tryz.prog 85 #[.string ⟨(lTxt s l).toArray⟩, .map (some gM)] wr (RdPost s gM n0 (vss.take k).flatten l wr)) := readVisits_any gM n0 D _ l s wr hmap hDS hlen hrng hsgn
        unfold strV at hcel
        obtain ⟨wd, hwde⟩ : ∃ wd : ByteArray, wd = ⟨(lTxt s l).toArray⟩ := ⟨_, rfl⟩
        rw [← hwde] at hcel hwd CR
        have HDB := Lib.hid hdb
        have HROW := Lib.hid hrow
        have HFR := Lib.hid hfr
        have HKL := Lib.hid hkl
        have HL := Lib.hid hl
        have HFS := Lib.hid hfs
        have HN0 := Lib.hid hn0
        have hvl : vals.length = k := by rw [hrow.2.1, List.length_take]; omega
        have HVL := Lib.hid hvl
        clear hrow hdb hn0 hmap hDS hlm hyr hy hfr hwde hl hkl hmin hsub hrng hsgn hfs hlen hvl
        go_wp2_with (first
          | (go_at_call 85; ((with_reducible refine CR.out.mono ?_); rintro e w2 ⟨A2, c2, rfl, hvel, hg2, D2, hmap2, hDS2⟩; have hdb2 := HDB.out.grown hg2 (by omega); have y0 := hdb2.1; have hrow2 := HROW.out.grown hg2 (Nat.lt_succ_self gM); have hfr2 := froz_grown HDB.out.2.2.2 HFR.out hg2 (by omega); have hg2s := hg2.size))
          | (at_builtin
             refine wpList_append_row1 rfl (.tmp 34) (.tmp 36) 26 49 (.slice none 0 0) 24 rfl Tryz.underlying26 Tryz.infoVisL rfl (by omega) (gM + 1) _ vals rfl (World.ownsRow.alloc hrow2.1 _) w2.heap.size (.slice A2 l.length c2) rfl (by rw [World.cell?_alloc_at _ _ _ _ rfl]; rfl) rfl (by rw [HVL.out]; omega) (by simp; omega) ?_
             rw [HVL.out]
             intro A5 c5 w5 hrow5 hg5
             have q5 : w5.cell? ⟨gB, 0, none⟩ = some (.slice Ak k ck) := hcell5i (Below.refl _ _) hg5 hdb2.1 hrow2.1 (by omega)
             have f5 : w5.frozen? ⟨gB, 0, none⟩ = false := hfroz5 (Below.refl _ _) hg5 hdb2.2.2.2 (hfr2 0) hrow2.1 (by omega) (by omega)))
        have hvel' : VEl w2 (gM + 1) 51 A2 l.length l := ⟨hvel.1, fun b off e => ⟨by have := (hvel.2 b off e).1; omega, (hvel.2 b off e).2⟩⟩
        have HPR := Lib.hid (row_round (by decide) (by omega) hfr2 hdb2 hrow2 HKL.out HL.out hvel' (by omega) hrow5 hg5)
        have hno : ∀ j, (Value.slice Ak k ck).ownBlock = some j → gM + 1 ≤ j := fun j hj => (World.ownsRow.lt hrow2.1 j hj).1
        have h25 := hgrown5 (Below.refl _ _) hg5
        have hmap5 := (World.ownsMap.kept hmap2 h25 (fun e => by have := hno gM e.symm; omega)).kept (grown_set (World.grownBy.refl w5 (some gB)) 0 (.slice A5 (k + 1) c5)) (fun e => by have := Option.some.inj e; omega)
        have hb2 : Below gB wA w2 := hbr.grown hg2 (by have := hbr.size; have := HGB.out; omega) (fun j e => by have := Option.some.inj e; omega)
        have hb5 : Below gB wA (w5.setCell ⟨gB, 0, none⟩ (.slice A5 (k + 1) c5)) := below_set (hb2.grown h25 (by omega) (fun j hj => by have := hno j hj; omega)) (Nat.le_refl _) _
        have hM5 : gM < (w5.setCell ⟨gB, 0, none⟩ (.slice A5 (k + 1) c5)).heap.size := hmap5.lt
        have HMAP := Lib.hid hmap5
        have HDS2 := Lib.hid hDS2
        clear hrow5 hg5 q5 f5 hmap2 hDS2 hvel hvel' hrow2 hdb2 hfr2 y0 hg2 h25 hno hmap5
        go_roundw
        case rel => exact ⟨k + 1, by omega, by go_num, hb5, HPR.out.1, hM5, A5, c5, _, D2, _, by rw [show min (k + 1) nc = k + 1 by omega, show k + 1 - nc = 0 by omega]; exact HPR.out.2.1, by rw [show min (k + 1) nc = k + 1 by omega]; exact HPR.out.2.2, by rw [HFS.out, List.length_append, ← HN0.out], HMAP.out, by rw [HFS.out]; exact HDS2.out⟩
        case measure => simp [intOf]; omega
      · rw [gw_right (by rw [HNC.out]; omega) (by rw [HNC.out]; have := HN.out; omega)] at hcel
        have hwd : ((ByteArray.mk [42].toArray).toList == [42]) = true := by rw [ByteArray.toList_eq]; rfl
        unfold strV at hcel
        obtain ⟨wd, hwde⟩ : ∃ wd : ByteArray, wd = ⟨[42].toArray⟩ := ⟨_, rfl⟩
        rw [← hwde] at hcel hwd
        obtain ⟨q, hq⟩ : ∃ q, k - nc = q := ⟨_, rfl⟩
        have hql : q ≤ 200 := by omega
        have hq0 : (0 : Int) ≤ (q : Int) := Int.natCast_nonneg _
        rw [hq, show min k nc = nc by omega] at hdb
        rw [show min k nc = nc by omega] at hrow
        have htk : vss.take (k + 1) = vss.take k := by
          rw [List.take_of_length_le (by rw [HNC.out]; omega), List.take_of_length_le (by rw [HNC.out]; omega)]
        obtain ⟨y0, y1, y2, ylt⟩ := hdb
        have f2 := hfr 2
        have hdb' : DB (wr.setCell ⟨gB, 2, none⟩ (.int .i64 ((q : Int) + 1))) gB Ak nc ck none 0 0 ((q + 1 : Nat) : Int) := by
          refine ⟨?_, ?_, ?_, by simp [World.setCell]; exact ylt⟩
          · rw [World.cell?_setCell_other _ _ _ _ (by simp)]; exact y0
          · rw [World.cell?_setCell_other _ _ _ _ (by simp)]; exact y1
          · rw [World.cell?_setCell_same _ _ _ y2]; rfl
        have hrow' := hrow.set (p := ⟨gB, 2, none⟩) (show gB < gM + 1 by omega) (.int .i64 ((q : Int) + 1))
        have hmap' := World.ownsMap.kept hmap (grown_set (World.grownBy.refl wr (some gB)) 2 (.int .i64 ((q : Int) + 1))) (fun e => by have := Option.some.inj e; omega)
        have hb' : Below gB wA (wr.setCell ⟨gB, 2, none⟩ (.int .i64 ((q : Int) + 1))) := below_set hbr (Nat.le_refl _) _
        have hfr' : ∀ i, (wr.setCell ⟨gB, 2, none⟩ (.int .i64 ((q : Int) + 1))).frozen? ⟨gB, i, none⟩ = false := fun i => by simp [hfr i]
        have HDB := Lib.hid hdb'
        have HROW := Lib.hid hrow'
        have HMAP := Lib.hid hmap'
        have HFR := Lib.hid hfr'
        have HTK := Lib.hid htk
        have HN0 := Lib.hid hn0
        have HDS := Lib.hid hDS
        have HQ := Lib.hid hq
        clear hdb' hrow' hmap' hfr' hrow hmap hDS hn0 htk hfr hwde y0 y1 hq
        go_wp2
        go_roundw
        case rel => exact ⟨k + 1, by omega, by go_num, hb', HFR.out, by have := HMAP.out.lt; exact this, Ak, ck, vals, D, n0, by rw [show min (k + 1) nc = nc by omega, show k + 1 - nc = q + 1 by have := HQ.out; omega]; exact HDB.out, by rw [show min (k + 1) nc = nc by omega, HTK.out]; exact HROW.out, by rw [HTK.out]; exact HN0.out, HMAP.out, by rw [HTK.out]; exact HDS.out⟩
        case measure => simp [intOf]; omega
    · obtain rfl : k = N := by omega
      have htk : vss.take k = vss := List.take_of_length_le (by rw [HNC.out]; have := HN.out; omega)
      rw [htk] at hrow hDS
      rw [show min k nc = nc by have := HN.out; omega, show k - nc = m by have := HN.out; omega] at hdb
      rw [show min k nc = nc by have := HN.out; omega] at hrow
      obtain ⟨hdl, hdm⟩ := dsK_code G.out.vb
      rw [HNS.out] at hdl hdm
      have hsz : Maps.size D = ns := by rw [hDS.2.2, hdl]
      have hat : ∀ c : Nat, c < ns → D.atKey (.int .i64 (c : Int)) (.lit (.int .i64 0)) = .lit (.int .i64 (s.getD c 0)) := fun c hc => by
        rw [hDS.1, if_pos (hdm c hc), Int.toNat_natCast]
      have hsi : ∀ c : Nat, c < ns → s.getD c 0 = 1 ∨ s.getD c 0 = -1 := fun c hc => by
        have h2 := (sgnsB_iff _).1 G.out.sg c (by rw [HNS.out]; exact hc)
        unfold sgB at h2
        simpa using h2
      have HAT := Lib.hid hat
      have HMAP := Lib.hid hmap
      have HROW := Lib.hid hrow
      have HFR := Lib.hid hfr
      have HDB := Lib.hid hdb
      obtain ⟨w1, hw1⟩ : ∃ w1 : World, w1 = wr := ⟨_, rfl⟩
      subst hw1
      have hs0 : OI w1 w1.heap.size (.slice none 0 0) (s.take 0) := OI.nil _ _
      have HS0 := Lib.hid hs0
      have hBlt : gB < w1.heap.size := hdb.2.2.2
      clear hat hmap hrow hfr hdb hDS hdl hdm htk hlt hk hsi hs0 hn0
      go_wp2_with (at_len; refine wpList_len_own _ rfl _ 118 rfl 3 3 Tryz.underlying118 _ gM _ _ rfl HMAP.out ?_; rw [hsz])
      go_loopw [10, 42] (fun _ i wr => ∃ c : Nat, c ≤ ns ∧ i = .int .i64 c ∧ w1.grownBy wr (some gB) ∧ (∀ i, wr.frozen? ⟨gB, i, none⟩ = false) ∧ ∃ Sk sk, DB wr gB Ak nc ck Sk c sk (m : Int) ∧ OI wr w1.heap.size (.slice Sk c sk) (s.take c)) (fun _ i _ => ns - (intOf i).toNat)
      case atStart => exact ⟨0, by omega, rfl, World.grownBy.refl _ _, HFR.out, none, 0, HDB.out, HS0.out⟩
      case round =>
        obtain ⟨c, hc, rfl, hgr, hfr, Sk, sk, hdb, hoi⟩ := hrel
        have hc0 : (0 : Int) ≤ (c : Int) := Int.natCast_nonneg _
        by_cases hcl : c < ns
        · have hc1 : (c : Int) < (ns : Int) := by omega
          have hmp := HMAP.out.kept hgr (fun e => by have := Option.some.inj e; omega)
          have hA := HAT.out c hcl
          have htk := take_succ_getD s 0 c (by rw [HNS.out]; exact hcl)
          have htl : (s.take c).length = c := by rw [List.length_take]; have := HNS.out; omega
          have hwf : (Lit.int .i64 (c : Int)).wf = true := WalkArith.wf_i64 (by omega)
          obtain ⟨y0, y1, y2, ylt⟩ := hdb
          have f1 := hfr 1
          have hgs := hgr.size
          have HMP := Lib.hid hmp
          have HA := Lib.hid hA
          have HTK := Lib.hid htk
          have HTL := Lib.hid htl
          have HOI := Lib.hid hoi
          have HGR := Lib.hid hgr
          have HFR2 := Lib.hid hfr
          have HY0 := Lib.hid y0
          have HY2 := Lib.hid y2
          clear hmp hA htk htl hoi hgr hfr y0 y2
          go_wp2_with (first
            | (at_lookup; refine wpList_lookup_own_int _ rfl _ _ 118 rfl 3 3 .i64 lawInt Tryz.underlying118 Tryz.underlying3 (by kernel_rfl) gM _ _ rfl HMP.out _ _ rfl (keyOf_int_mk Tryz.underlying3 hwf) ?_; intro sv hsv hwv)
            | (at_builtin
               refine wpList_append_int rfl (.tmp 46) (.tmp 50) rfl w1.heap.size _ (s.take c) rfl (HOI.out.alloc _) wr.heap.size sv rfl (by rw [World.cell?_alloc_at _ _ _ _ rfl]; rfl) (by rw [HTL.out]; omega) (by simp; omega) ?_
               intro v' w5 ho5 hg5
               obtain ⟨A5, c5, rfl⟩ : ∃ A5 c5, v' = .slice A5 (c + 1) c5 := by
                 have hl5 : (s.take c ++ [sv]).length = c + 1 := by rw [List.length_append, HTL.out]; rfl
                 rcases ho5.form with ⟨_, h⟩ | ⟨g5, cap5, h, _⟩
                 · simp at h
                 · exact ⟨some ⟨g5, 0, none⟩, cap5, by rw [h, hl5]⟩
               have hno : ∀ j, (Value.slice Sk c sk).ownBlock = some j → w1.heap.size ≤ j := fun j hj => (World.ownsRow.lt HOI.out j hj).1
               have h15 : wr.grownBy w5 (Value.slice Sk c sk).ownBlock := hgrown5 (Below.refl _ _) hg5
               have q1 : w5.cell? ⟨gB, 1, none⟩ = some (.slice Sk c sk) := World.grownBy.cell h15 y1 (fun e => by have := hno gB e.symm; omega)
               have f5 : w5.frozen? ⟨gB, 1, none⟩ = false := by
                 have h := h15.block gB ylt (fun e => by have := hno gB e.symm; omega)
                 unfold World.frozen? at f1 ⊢
                 rw [h]; exact f1))
          have hsv2 : sv = s.getD c 0 := by
            have := HA.out
            rw [this] at hsv
            injection hsv with e
            injection e with _ e
            exact e.symm
          have hg5' : w1.grownBy w5 (some gB) := HGR.out.andThen h15 (fun j hj => .inl (hno j hj))
          have hdb5 : DB (w5.setCell ⟨gB, 1, none⟩ (.slice A5 (c + 1) c5)) gB Ak nc ck A5 (c + 1) c5 (m : Int) := by
            have e0 : w5.cell? ⟨gB, 0, none⟩ = _ := World.grownBy.cell h15 HY0.out (fun e => by have := hno gB e.symm; omega)
            have e2 : w5.cell? ⟨gB, 2, none⟩ = _ := World.grownBy.cell h15 HY2.out (fun e => by have := hno gB e.symm; omega)
            refine ⟨?_, World.cell?_setCell_same _ _ _ q1, ?_, by simp [World.setCell]; exact Nat.lt_of_lt_of_le ylt h15.size⟩
            · rw [World.cell?_setCell_other _ _ _ _ (by simp)]; exact e0
            · rw [World.cell?_setCell_other _ _ _ _ (by simp)]; exact e2
          have hfr5 : ∀ i, (w5.setCell ⟨gB, 1, none⟩ (.slice A5 (c + 1) c5)).frozen? ⟨gB, i, none⟩ = false := fun i => by
            have h := h15.block gB ylt (fun e => by have := hno gB e.symm; omega)
            have h3 := HFR2.out i
            have h4 : w5.frozen? ⟨gB, i, none⟩ = false := by
              unfold World.frozen? at h3 ⊢
              rw [h]; exact h3
            simp [h4]
          have ho6 := ho5.far (p := ⟨gB, 1, none⟩) (fun e => by have := (World.ownsRow.lt ho5 gB e).1; omega) (.slice A5 (c + 1) c5)
          rw [hsv2, ← HTK.out] at ho6
          have HO6 := Lib.hid ho6
          have HDB5 := Lib.hid hdb5
          have HFR5 := Lib.hid hfr5
          have HG6 := Lib.hid (grown_set hg5' 1 (.slice A5 (c + 1) c5))
          clear ho5 ho6 hdb5 hfr5 hg5' h15 hno hg5 q1 f5 hsv hsv2
          go_roundw
          case rel => exact ⟨c + 1, by omega, by go_num, HG6.out, HFR5.out, A5, c5, HDB5.out, HO6.out⟩
          case measure => simp [intOf]; omega
        · obtain rfl : c = ns := by omega
          have htk : s.take c = s := by rw [← HNS.out, List.take_length]
          rw [htk] at hoi
          obtain ⟨y0, y1, y2, ylt⟩ := hdb
          have hne1 : g1 ≠ gB := by omega
          have hneI : ∀ i, some (⟨g1, i, none⟩ : Addr).block ≠ some gB := fun i e => hne1 (Option.some.inj e)
          have e0 := World.grownBy.cell hgr ((hbr.cell (p := ⟨g1, 0, none⟩) hg1B).trans r0) (hneI 0)
          have e1 := World.grownBy.cell hgr ((hbr.cell (p := ⟨g1, 1, none⟩) hg1B).trans r1) (hneI 1)
          have e2 := World.grownBy.cell hgr ((hbr.cell (p := ⟨g1, 2, none⟩) hg1B).trans r2) (hneI 2)
          have hfz := froz_grown (Nat.lt_trans hg1B hBlt) (fun i => (hbr.frozen (p := ⟨g1, i, none⟩) hg1B).trans (HRF.out i)) hgr hne1
          have f0 := hfz 0
          have f1 := hfz 1
          have f2 := hfz 2
          obtain ⟨k0, k1, k2⟩ := set3_cells wr g1 (.slice Ak nc ck) (.slice Sk c sk) (.int .i64 (m : Int)) e0 e1 e2
          have hR := ((HROW.out.grown hgr (by omega)).set3 (g1 := g1) (by omega) (.slice Ak nc ck) (.slice Sk c sk) (.int .i64 (m : Int))).mono (show w.heap.size ≤ gM + 1 by have := HG1.out; omega)
          have hw1s := hbr.size
          have hoF := (hoi.set3 (g := g1) (fun e => by have := (World.ownsRow.lt hoi g1 e).1; omega) (.slice Ak nc ck) (.slice Sk c sk) (.int .i64 (m : Int))).mono (show w.heap.size ≤ w1.heap.size by have := HG1.out; have := HGB.out; omega)
          have hbw : Below w.heap.size w wr := grown_below (below_step hb1' (by rw [HGB.out]; exact hbr)) hgr (by have := HG1.out; omega) (by have := HG1.out; omega)
          have hbF := set3_below hbw (show w.heap.size ≤ g1 by have := HG1.out; omega) (.slice Ak nc ck) (.slice Sk c sk) (.int .i64 (m : Int))
          have HF : Hid (ReadPost vss s (m : Int) c w (.returned (.tuple #[dval Ak nc ck Sk c sk (m : Int), .bool true])) (set3 wr g1 (.slice Ak nc ck) (.slice Sk c sk) (.int .i64 (m : Int)))) := Lib.hid ⟨Ak, ck, Sk, sk, vals, by rw [HNC.out], by rw [HNC.out]; exact hR, hoF, hbF⟩
          clear hR hoF hbF hbw hfz hoi htk hgr hfr hcl hc
          go_wp2
          exact bodyPost_ret (v := .tuple #[dval Ak nc ck Sk c sk (m : Int), .bool true]) (by simp [results, Tryz.results58, go_sem, k0, k1, k2]) rfl HF.out

end Go.Proofs.YtdacjnmfmhkpiaaGreatDoor

/- Walk: Parse, of a code's text. -/
namespace Go.Proofs.YtdacjnmfmhkpiaaGreatDoor
open Go.ChangeShapes Go.WideShapes Go.ChangeAt Go.RowKit Go.Joins

/-- The table of the white space below 128 lies as it should. -/
def TabW (w : World) : Prop := Lib.TabIs Tryz.prog w "strings.asciiSpace" .u8 Lib.asciiSpaceTab
theorem Tryz.gSpace : Tryz.prog.globalNamed "strings.asciiSpace" = some 0 := by kernel_rfl
theorem TabW.keep {w w' : World} (h : TabW w) (hb : Below w.heap.size w w') : TabW w' := tab_stays Tryz.gSpace h hb (Nat.le_refl _)
def ParsePost (vss : List (List Vis)) (s : List Int) (lp : Int) (ns : Nat) (w : World) (e : Ending) (w' : World) : Prop :=
  ∃ C cc S cs, e = .returned (.tuple #[dval C vss.length cc S ns cs lp, .int .i64 0]) ∧ RVV w' C vss.length vss ∧ RI w' S ns s ∧ Below w.heap.size w w'
theorem wb_new (w : World) (ws : List (List UInt8)) : WB (w.alloc (.cells (ws.map fun l => Value.string ⟨l.toArray⟩).toArray 9)) w.heap.size ws :=
  ⟨by simp, fun k hk => by rw [World.cell?_alloc_at _ _ _ _ rfl]; simp [List.getD, hk, strV]⟩

set_option maxHeartbeats 3200000 in
set_option maxRecDepth 100000 in
theorem parse_code (m ns : Nat) (vss : List (List Vis)) (s : List Int) (w : World) (hv : gvalB vss s (m : Int) = true) (hns : s.length = ns) (ht : TabW w) :
    Calls Tryz.prog 30 #[.string ⟨(gTxt vss s (m : Int)).toArray⟩] w (ParsePost vss s (m : Int) ns w) := by
  have hgl := gTxt_len hv
  have hfd := gTxt_fields hv
  rw [Int.toNat_natCast] at hfd
  have hasc : ∀ (j : Nat) b, (ByteArray.mk (gTxt vss s (m : Int)).toArray).data.toList[j]? = some b → b.toNat < 128 := fun j b hb => gTxt_ascii hv (List.mem_of_getElem? hb)
  have hsz : (ByteArray.mk (gTxt vss s (m : Int)).toArray).size = (gTxt vss s (m : Int)).length := by simp [ByteArray.size]
  have G := Lib.hid (gv_facts hv)
  have hlf := len_flat G.out.ne
  have hfl := G.out.len
  have hle := G.out.le
  have CFm : ∀ (C S : Option Addr) (cc cs : Nat) (W : World), RVV W C vss.length vss → RI W S ns s → Hid (Calls Tryz.prog 29 #[dval C vss.length cc S ns cs (m : Int)] W fun e w' => e = .returned (.tuple #[.string ⟨(gTxt vss s (m : Int)).toArray⟩, .int .i64 0]) ∧ Below W.heap.size W w') :=
    fun C S cc cs W hC hS => gFormat_yes C S vss.length cc ns cs _ vss s W hC hS hv
  have CFi : ∀ W : World, TabW W → Hid (Calls Tryz.prog 59 #[.string ⟨(gTxt vss s (m : Int)).toArray⟩] W fun e w' => ∃ g, e = .returned (.slice (some ⟨g, 0, none⟩) (vss.length + m) (vss.length + m)) ∧ WB w' g (gWords vss s m) ∧ Below W.heap.size W w') := fun W hT => by
    have h := Tryz.strings_Fields _ W (by rw [hsz]; omega) hasc hT
    have e1 : (ByteArray.mk (gTxt vss s (m : Int)).toArray).data.toList = gTxt vss s (m : Int) := rfl
    rw [e1, hfd, gw_len] at h
    refine h.mono ?_
    rintro e w' ⟨rfl, hw⟩
    rw [hw]
    exact ⟨_, rfl, wb_new W _, below_alloc _ _⟩
  have CRd : ∀ (g : Nat) (W : World), WB W g (gWords vss s m) → Hid (Calls Tryz.prog 58 #[.slice (some ⟨g, 0, none⟩) (vss.length + m) (vss.length + m)] W (ReadPost vss s (m : Int) ns W)) :=
    fun g W hw => read_any g m _ ns vss s W hw rfl hv hns
  have hb1 := below_alloc w zbox
  have hr := DB.newT w none 0 0 none 0 0 0 28
  have hrf : ∀ i, (w.alloc zbox).frozen? ⟨w.heap.size, i, none⟩ = false := fun i => World.frozen?_alloc_at _ _ _ _ rfl
  have hT1 := ht.keep hb1
  obtain ⟨sb, hsb⟩ : ∃ sb : ByteArray, sb = ⟨(gTxt vss s (m : Int)).toArray⟩ := ⟨_, rfl⟩
  rw [← hsb] at CFm CFi hsz ⊢
  obtain ⟨nc, hnc⟩ : ∃ nc, vss.length = nc := ⟨_, rfl⟩
  have HP : Hid (∀ C cc S cs w', RVV w' C nc vss → RI w' S ns s → Below w.heap.size w w' → ParsePost vss s (m : Int) ns w (.returned (.tuple #[dval C nc cc S ns cs (m : Int), .int .i64 0])) w') := fun C cc S cs w' h1 h2 h3 => ⟨C, cc, S, cs, by rw [hnc], by rw [hnc]; exact h1, h2, h3⟩
  have CRd' : ∀ (g : Nat) (W : World), WB W g (gWords vss s m) → Hid (Calls Tryz.prog 58 #[.slice (some ⟨g, 0, none⟩) (nc + m) (nc + m)] W fun e w' => ∃ C cc S cs vals, e = .returned (.tuple #[dval C nc cc S ns cs (m : Int), .bool true]) ∧ VR w' W.heap.size 49 51 (.slice C nc cc) vals vss ∧ OI w' W.heap.size (.slice S ns cs) s ∧ Below W.heap.size W w') := fun g W hw => by
    have := (CRd g W hw).out
    unfold ReadPost at this
    rw [hnc] at this
    exact this
  rw [hnc] at CFm CFi hlf
  have hsz1 : (sb.size : Int) ≤ 65536 := by omega
  have hsz2 : sb.size ≤ 65536 := by omega
  have HT := Lib.hid hT1
  have HR := Lib.hid hr
  have HRF := Lib.hid hrf
  clear CRd hsb hfd hasc hnc hgl hv hns hT1 ht hrf hr hsz hlf hfl hle
  go_enter Tryz.func30, Tryz.ntmps30
  go_upto_region 1 with fail
  generalize w.alloc zbox = wA at *
  obtain ⟨g1, hg1⟩ : ∃ g1, w.heap.size = g1 := ⟨_, rfl⟩
  have HG1 := Lib.hid hg1
  rw [hg1] at HR HRF ⊢
  obtain ⟨r0, r1, r2, rlt⟩ := HR.out
  clear hg1
  go_wp2_with (first
    | (go_at_call 59; ((with_reducible refine (CFi _ HT.out).out.mono ?_); rintro e w2 ⟨g2, rfl, hwb, hb2⟩))
    | (go_at_call 58; ((with_reducible refine (CRd' _ _ hwb).out.mono ?_); rintro e w3 ⟨C, cc, S, cs, vals, rfl, hC, hS, hb3⟩; have hb13 := below_step hb2 hb3))
    | (go_at_call 29; ((with_reducible refine (CFm C S cc cs _ (hC.keep (below_alloc _ _)).rvv (hS.keep (below_alloc _ _)).ri).out.mono ?_); rintro e w5 ⟨rfl, hb5⟩; obtain ⟨x0, x1, x2, _⟩ := (DB.newT w3 C nc cc S ns cs (m : Int) 28).keep hb5; have hbA5 := below_step hb13 (below_step (below_alloc w3 (.cells #[.slice C nc cc, .slice S ns cs, .int .i64 (m : Int)] 28)) hb5); have q0 := (hbA5.cell (p := ⟨g1, 0, none⟩) rlt).trans r0; have q1 := (hbA5.cell (p := ⟨g1, 1, none⟩) rlt).trans r1; have q2 := (hbA5.cell (p := ⟨g1, 2, none⟩) rlt).trans r2; have f0 := (hbA5.frozen (p := ⟨g1, 0, none⟩) rlt).trans (HRF.out 0); have f1 := (hbA5.frozen (p := ⟨g1, 1, none⟩) rlt).trans (HRF.out 1); have f2 := (hbA5.frozen (p := ⟨g1, 2, none⟩) rlt).trans (HRF.out 2))))
  obtain ⟨k0, k1, k2⟩ := set3_cells w5 g1 (.slice C nc cc) (.slice S ns cs) (.int .i64 (m : Int)) q0 q1 q2
  have hb35 := below_step (below_alloc w3 (.cells #[.slice C nc cc, .slice S ns cs, .int .i64 (m : Int)] 28)) hb5
  have hbF := set3_below (below_step hb1 hbA5) (show w.heap.size ≤ g1 by have := HG1.out; omega) (.slice C nc cc) (.slice S ns cs) (.int .i64 (m : Int))
  have hs2 := hb2.size
  have hR := ((hC.keep hb35).set3 (g1 := g1) (by omega) (.slice C nc cc) (.slice S ns cs) (.int .i64 (m : Int))).rvv
  have hO := ((hS.keep hb35).set3 (g := g1) (fun e => by have := (World.ownsRow.lt hS g1 e).1; omega) (.slice C nc cc) (.slice S ns cs) (.int .i64 (m : Int))).ri
  exact bodyPost_ret (v := .tuple #[dval C nc cc S ns cs (m : Int), .int .i64 0]) (by simp [results, Tryz.results30, go_sem, k0, k1, k2]) rfl (HP.out C cc S cs _ hR hO hbF)

end Go.Proofs.YtdacjnmfmhkpiaaGreatDoor

/- The examples of the chapter, computed. -/
namespace Go.Proofs.YtdacjnmfmhkpiaaGreatDoor
open Go.RowKit

def trS : List Int := [1, 1, 1]
def trM : List Int := [9, 4, 7, 10, 1, 8, 11, 2, 5, 0, 3, 6]
def kkS : List Int := [1]
def kkM : List Int := [1, 0, 3, 2]

theorem tr_lab : IsLab (matesOf trM) 12 3 (fun _ => 0) := by
  refine ⟨fun c hc => ⟨Nat.zero_le _, ?_⟩, fun _ _ => rfl⟩
  have h0 : Conn (matesOf trM) 12 0 2 := Conn.step 0 (by omega) (Conn.refl 0)
  have h1 : Conn (matesOf trM) 12 0 1 := Conn.step 1 (by omega) (Conn.refl 0)
  match c, hc with
  | 0, _ => exact .refl _
  | 1, _ => exact h1.symm
  | 2, _ => exact h0.symm
theorem kk_lab : IsLab (matesOf kkM) 4 1 (fun _ => 0) := by
  refine ⟨fun c hc => ⟨Nat.zero_le _, ?_⟩, fun _ _ => rfl⟩
  match c, hc with
  | 0, _ => exact .refl _
theorem tr_sph : sphM trM 3 = true := by
  show sphB (ufLab (matesOf trM) 12) (ff (matesOf trM)) (4 * 3) 3 = true
  rw [sphB_congr (G := fun _ => 0) fun c hc => (ufLab_isLab (matesOf trM) 12 3).unique tr_lab c hc]
  decide +kernel
theorem kk_sph : sphM kkM 1 = true := by
  show sphB (ufLab (matesOf kkM) 4) (ff (matesOf kkM)) (4 * 1) 1 = true
  rw [sphB_congr (G := fun _ => 0) fun c hc => (ufLab_isLab (matesOf kkM) 4 1).unique kk_lab c hc]
  decide +kernel
theorem tr_valid : validB trS trM 0 = true := by
  unfold validB
  rw [show trS.length = 3 from rfl, tr_sph]
  decide +kernel
theorem kk_valid : validB kkS kkM 0 = true := by
  unfold validB
  rw [show kkS.length = 1 from rfl, kk_sph]
  decide +kernel
theorem tr_faces : facesM trS trM 0 = [[0, 8, 4], [1, 7], [2, 6, 10], [3, 9], [5, 11]] := by
  unfold facesM; rw [if_pos tr_valid]; decide +kernel
theorem tr_strands : strandsM trS trM 0 = [[1, 6, 9, 2, 5, 10]] := by
  unfold strandsM; rw [if_pos tr_valid]; decide +kernel
theorem kk_faces : facesM kkS kkM 0 = [[0], [1, 3], [2]] := by
  unfold facesM; rw [if_pos kk_valid]; decide +kernel

end Go.Proofs.YtdacjnmfmhkpiaaGreatDoor

/- The examples of the chapter on Gauss codes, computed. -/
namespace Go.Proofs.YtdacjnmfmhkpiaaGreatDoor
open Go.RowKit

def exV : List (List Vis) := [[(0, true), (1, true), (0, false), (1, false)]]
def exS : List Int := [1, 1]
def exT : List UInt8 := [79, 49, 43, 79, 50, 43, 85, 49, 43, 85, 50, 43]
def trT : List UInt8 := [79, 49, 43, 85, 50, 43, 79, 51, 43, 85, 49, 43, 79, 50, 43, 85, 51, 43]
theorem ex_val : gvalB exV exS 0 = true := by decide +kernel
theorem d1 : Lib.decDigits 1 = [49] := Lib.decDigits_one (by omega)
theorem d2 : Lib.decDigits 2 = [50] := Lib.decDigits_one (by omega)
theorem d3 : Lib.decDigits 3 = [51] := Lib.decDigits_one (by omega)
theorem ex_txt : gTxt exV exS 0 = exT := by
  simp [gTxt, gWords, exV, exS, exT, lTxt, vTxt, Lib.join_cons, Lib.joinTail, d1, d2]
theorem tr_code : codeC trS trM 0 = [[(0, true), (1, false), (2, true), (0, false), (1, true), (2, false)]] := by
  unfold codeC; rw [tr_strands]; decide +kernel
theorem tr_txt : gTxt (codeC trS trM 0) trS 0 = trT := by
  rw [tr_code]
  simp [gTxt, gWords, trS, trT, lTxt, vTxt, Lib.join_cons, Lib.joinTail, d1, d2, d3]
theorem ex_lab : IsLab (mAll exS exV exV.length) 8 2 (fun _ => 0) := by
  refine ⟨fun c hc => ⟨Nat.zero_le _, ?_⟩, fun _ _ => rfl⟩
  have h0 : Conn (mAll exS exV exV.length) 8 0 1 := Conn.step 1 (by omega) (Conn.refl 0)
  match c, hc with
  | 0, _ => exact .refl _
  | 1, _ => exact h0.symm
theorem rootsN_congr {F G : Nat → Nat} {n : Nat} (h : ∀ c, c < n → F c = G c) : rootsN F n = rootsN G n := by
  unfold rootsN
  rw [List.countP_eq_length_filter, List.countP_eq_length_filter]
  congr 1
  refine List.filter_congr fun c hc => ?_
  rw [h c (by simpa using hc)]
theorem ex_gen : genC exV exS = 1 := by
  unfold genC genM
  have h1 : nRoots (ufAt (mAll exS exV exV.length) (4 * exS.length)) exS.length = 1 := by
    rw [nRoots_rootsN _ (ufAt_below _ _)]
    have e : root (ufAt (mAll exS exV exV.length) (4 * exS.length)) = ufLab (mAll exS exV exV.length) 8 := rfl
    rw [e, show exS.length = 2 from rfl, rootsN_congr (G := fun _ => 0) fun c hc => (ufLab_isLab _ 8 2).unique ex_lab c hc]
    rfl
  have h2 : cFst (ff (mAll exS exV exV.length)) (4 * exS.length) (4 * exS.length) = 2 := by decide +kernel
  rw [h1, h2]
  rfl

end Go.Proofs.YtdacjnmfmhkpiaaGreatDoor
