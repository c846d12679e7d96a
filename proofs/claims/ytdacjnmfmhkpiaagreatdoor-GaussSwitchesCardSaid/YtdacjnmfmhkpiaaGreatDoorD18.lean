import Derived.Test.YtdacjnmfmhkpiaaGreatDoorD17
import Derived.Test.YtdacjnmfmhkpiaaGreatDoorD06
import Derived.Test.YtdacjnmfmhkpiaaGreatDoorD05
import Derived.Deep.SlicePairs
import Derived.Test.YtdacjnmfmhkpiaaGreatDoorD16
/- Walk: awake of layer 2. -/
namespace Go.Proofs.YtdacjnmfmhkpiaaGreatDoor
open Go.RowKit

theorem RI.litL (w : World) (xs : List Int) : RI (w.alloc (.cells (ints xs).toArray 3)) (some ⟨w.heap.size, 0, none⟩) xs.length xs :=
  ⟨rfl, fun _ => ⟨w.heap.size, 0, rfl, by simp, fun j hj => by
    rw [World.cell?_alloc_at _ _ _ _ rfl, Nat.zero_add]
    simp [ints, List.getD, hj]⟩⟩
theorem tr_dv (w : World) (o : Obj) : DV (((w.alloc (.cells (ints trS).toArray 3)).alloc (.cells (ints trM).toArray 3)).alloc o) (some ⟨w.heap.size, 0, none⟩) 3 (some ⟨w.heap.size + 1, 0, none⟩) 12 trS trM := by
  refine ⟨?_, ?_, by omega, by omega, ?_⟩
  · exact ((RI.litL w trS).alloc _).alloc _
  · have := (RI.litL (w.alloc (.cells (ints trS).toArray 3)) trM).alloc o
    rw [show (w.alloc (.cells (ints trS).toArray 3)).heap.size = w.heap.size + 1 by simp] at this
    exact this
  · exact (by decide : ∀ j, j < 12 → -9223372036854775808 ≤ mt trM j ∧ mt trM j ≤ 9223372036854775807)
theorem ex_parse (W : World) (hT : TabW W) : Calls Tryz.prog 30 #[.string ⟨exT.toArray⟩] W (ParsePost exV exS 0 2 W) := by
  have h := parse_code 0 2 exV exS W ex_val rfl hT
  have e : gTxt exV exS ((0 : Nat) : Int) = exT := ex_txt
  rw [e] at h
  exact h
theorem tr_format (C S : Option Addr) (nc cc cs : Nat) (W : World) (hC : RVV W C nc (codeC trS trM 0)) (hS : RI W S 3 trS) :
    Calls Tryz.prog 29 #[dval C nc cc S 3 cs 0] W fun e w' => e = .returned (.tuple #[.string ⟨trT.toArray⟩, .int .i64 0]) ∧ Below W.heap.size W w' := by
  have h := gFormat_yes C S nc cc 3 cs 0 _ trS W hC hS (codeC_gval tr_valid)
  rw [tr_txt] at h
  exact h
theorem ex_genus (C S : Option Addr) (cc cs : Nat) (W : World) (hC : RVV W C 1 exV) (hS : RI W S 2 exS) :
    Calls Tryz.prog 20 #[dval C 1 cc S 2 cs 0] W fun e w' => e = .returned (.tuple #[.int .i64 1, .int .i64 0]) ∧ Below W.heap.size W w' := by
  have h := gGenus_any C S 1 cc 2 cs 0 exV exS W hC hS (by omega) (by omega) (by decide)
  rw [ex_val, ex_gen] at h
  exact h

set_option maxHeartbeats 3200000 in
set_option maxRecDepth 100000 in
theorem gawake_any (w : World) (ht : TabW w) : Calls Tryz.prog 12 #[] w fun e w' => e = .returned (.bool true) ∧ Below w.heap.size w w' := by
  have hT : trT = [79, 49, 43, 85, 50, 43, 79, 51, 43, 85, 49, 43, 79, 50, 43, 85, 51, 43] := rfl
  have HTT := Lib.hid hT
  clear hT
  have hTW : ∀ W, Below w.heap.size w W → TabW W := fun W hb => ht.keep hb
  have HTW := Lib.hid hTW
  clear hTW ht
  go_enter Tryz.func12, Tryz.ntmps12
  go_wp2_with fail
  refine (of_yes _ _ _ _ _ _ _ trS trM _ (tr_dv w _) tr_valid).mono ?_
  rintro e w1 ⟨C1, nc1, cc1, S1, cs1, rfl, hC1, hS1, hb1⟩
  have hw1 := below_step (below_step (below_step (below_alloc w _) (below_alloc _ _)) (below_alloc _ _)) hb1
  clear hb1
  go_wp2_with fail
  refine (tr_format _ _ _ _ _ _ (hC1.keep (below_alloc _ _)) (hS1.keep (below_alloc _ _))).mono ?_
  rintro e w2 ⟨rfl, hb2⟩
  have hw2 := below_step hw1 (below_step (below_alloc w1 _) hb2)
  clear hb2 hw1 hC1 hS1
  go_wp2_with fail
  refine (ex_parse _ (HTW.out _ hw2)).mono ?_
  rintro e w3 ⟨C3, cc3, S3, cs3, rfl, hC3, hS3, hb3⟩
  have hw3 := below_step hw2 hb3
  clear hb3 hw2
  go_wp2_with fail
  refine (ex_genus _ _ _ _ _ (hC3.keep (below_alloc _ _)) (hS3.keep (below_alloc _ _))).mono ?_
  rintro e w4 ⟨rfl, hb4⟩
  have hw4 := below_step hw3 (below_step (below_alloc w3 _) hb4)
  clear hb4 hw3 hC3 hS3
  have hs1 : ((ByteArray.mk trT.toArray).toList == [79, 49, 43, 85, 50, 43, 79, 51, 43, 85, 49, 43, 79, 50, 43, 85, 51, 43]) = true := by rw [ByteArray.toList_eq]; decide
  go_wp2
  go_ret
  exact ⟨rfl, hw4⟩

end Go.Proofs.YtdacjnmfmhkpiaaGreatDoor

/- Walk: the law's few. -/
namespace Go.Proofs.YtdacjnmfmhkpiaaGreatDoor
open Go.RowKit

def fewB (vss : List (List Vis)) (ns nc : Nat) : Bool := decide (ns ≤ 14) && decide (nc ≤ 28) && decide (vss.flatten.length ≤ 42)

set_option maxHeartbeats 1600000 in
set_option maxRecDepth 100000 in
theorem few_any (C S : Option Addr) (nc cc ns cs : Nat) (lp : Int) (vss : List (List Vis)) (w : World) (hC : RVV w C nc vss) (hns : ns ≤ 9223372036854775807) (hnc : nc ≤ 9223372036854775807) (hfl : vss.flatten.length ≤ 9223372036854775807) :
    Calls Tryz.prog 24 #[dval C nc cc S ns cs lp] w fun e w' => e = .returned (.bool (fewB vss ns nc)) ∧ Below w.heap.size w w' := by
  have hd := DB.newT w C nc cc S ns cs lp 28
  have hb0 := below_alloc w (.cells #[.slice C nc cc, .slice S ns cs, .int .i64 lp] 28)
  have HC := Lib.hid hC
  have HCL := Lib.hid hC.1
  have HFL := Lib.hid hfl
  clear hC hfl
  go_enter Tryz.func24, Tryz.ntmps24
  go_upto_region 2 with fail
  generalize w.alloc (.cells #[.slice C nc cc, .slice S ns cs, .int .i64 lp] 28) = wA at *
  obtain ⟨d0, d1, d2, dlt⟩ := hd
  go_wp2
  go_loop [3, 5, 9] (fun s _ i => ∃ k : Nat, k ≤ nc ∧ i = .int .i64 k ∧ s = .int .i64 ((vss.take k).flatten.length : Nat)) (fun _ _ i => nc - (intOf i).toNat)
  case atStart => exact ⟨0, by omega, rfl, rfl⟩
  case round =>
    obtain ⟨k, hk, rfl, rfl⟩ := hrel
    have hk0 : (0 : Int) ≤ (k : Int) := Int.natCast_nonneg _
    by_cases hlt : k < nc
    · obtain ⟨bC, oC, hCe, hbC, hcc⟩ := HC.out.2 (by omega)
      subst hCe
      obtain ⟨A1, n1, c1, hcel0, hrv⟩ := hcc k hlt
      have hcel := (hb0.cell (p := ⟨bC, oC + k, none⟩) hbC).trans hcel0
      have hk1 : (k : Int) < (nc : Int) := by omega
      have hkl : k < vss.length := by rw [HCL.out]; exact hlt
      have hfs := flat_take_succ hkl
      have hln := hrv.1
      have hlen : (vss.take (k + 1)).flatten.length = (vss.take k).flatten.length + n1 := by rw [hfs, List.length_append, hln]
      have hle : (vss.take (k + 1)).flatten.length ≤ 9223372036854775807 := by
        have e3 : vss.flatten = (vss.take (k + 1)).flatten ++ (vss.drop (k + 1)).flatten := by rw [← List.flatten_append, List.take_append_drop]
        have := HFL.out
        rw [e3, List.length_append] at this
        omega
      rw [hlen] at hle
      have HLEN := Lib.hid hlen
      generalize (vss.take k).flatten.length = T at *
      have hT0 : (0 : Int) ≤ (T : Int) := Int.natCast_nonneg _
      have hn0 : (0 : Int) ≤ (n1 : Int) := Int.natCast_nonneg _
      have hT1 : (T : Int) + (n1 : Int) ≤ 9223372036854775807 := by omega
      clear hcc hrv hfs hln hlen hcel0
      go_wp2
      go_round
      case rel => exact ⟨k + 1, by omega, by go_num, by rw [HLEN.out]; go_num⟩
      case measure => simp [intOf]; omega
    · obtain rfl : k = nc := by omega
      have htk : vss.take k = vss := by rw [← HCL.out, List.take_length]
      rw [htk]
      have hF : fewB vss ns k = (decide (ns ≤ 14) && decide (k ≤ 28) && decide (vss.flatten.length ≤ 42)) := rfl
      have hfl := HFL.out
      generalize vss.flatten.length = T at *
      have HF := Lib.hid hF
      have hT0 : (0 : Int) ≤ (T : Int) := Int.natCast_nonneg _
      clear hF htk hlt hk
      by_cases h1 : ns ≤ 14
      · have h1' : (ns : Int) ≤ 14 := by omega
        by_cases h2 : k ≤ 28
        · have h2' : (k : Int) ≤ 28 := by omega
          by_cases h3 : T ≤ 42
          · have h3' : (T : Int) ≤ 42 := by omega
            go_wp2
            go_ret
            exact ⟨ret_bool (by rw [HF.out]; simp [h1, h2, h3]), hb0⟩
          · have h3' : 42 < (T : Int) := by omega
            go_wp2
            go_ret
            exact ⟨ret_bool (by rw [HF.out]; simp [h1, h2, h3] <;> omega), hb0⟩
        · have h2' : 28 < (k : Int) := by omega
          go_wp2
          go_ret
          exact ⟨ret_bool (by rw [HF.out]; simp [h1, h2]), hb0⟩
      · have h1' : 14 < (ns : Int) := by omega
        go_wp2
        go_ret
        exact ⟨ret_bool (by rw [HF.out]; simp [h1]), hb0⟩

end Go.Proofs.YtdacjnmfmhkpiaaGreatDoor

/- Opening a code that comes in; few, of any code. -/
namespace Go.Proofs.YtdacjnmfmhkpiaaGreatDoor
open Go.ChangeShapes Go.WideShapes Go.ChangeAt Go.RowKit Go.Joins Go.Deep

section
variable {H : Type} {enc : TypeId × Value → H} {W : World}
theorem Tryz.cellsV : Tryz.prog.cellsOf 51 = 2 := by kernel_rfl
theorem Tryz.cellsVL : Tryz.prog.cellsOf 49 = 1 := by kernel_rfl
theorem Tryz.cellsCode : Tryz.prog.cellsOf 28 = 3 := by kernel_rfl
theorem Tryz.cellsB1 : Tryz.prog.cellsOf 4 = 1 := by kernel_rfl

theorem Tryz.bytesV : Tryz.prog.bytesOf 51 = 16 := by kernel_rfl
theorem Tryz.bytesVL : Tryz.prog.bytesOf 49 = 24 := by kernel_rfl
theorem wall_mem {P : Program} {e : TypeId} : ∀ {l : List (DataW H)} {d : DataW H}, d ∈ l → ∀ n ∈ d.weights P e, n ∈ DataW.weightsAll P e l
  | a :: r, d, hm, n, hn => by
    unfold DataW.weightsAll
    rcases List.mem_cons.1 hm with e1 | hm
    · subst e1; exact List.mem_append_left _ hn
    · exact List.mem_append_right _ (wall_mem hm n hn)

set_option maxRecDepth 100000 in
theorem open_rv {fuel : Nat} {v : Value} {x : DataW H × List MemPlace} (h : DataW.trod enc Tryz.prog W 0 (fun _ => true) true fuel 49 [v] = some x) :
    ∃ A n c l, v = .slice A n c ∧ RV W A n l ∧ (n = 0 ∨ ∃ k, k ∈ x.1.weights Tryz.prog 49 ∧ n ≤ k) := by
  rcases open_slice_pairs Tryz.underlying49 Tryz.underlying51 Tryz.cellsV rfl rfl Tryz.cellsI Tryz.cellsB1 h with ⟨hcs, _⟩ | ⟨a, len, cap, m, n, V0, V1, D0, D1, P0, P1, hcs, _, hl, hm, hmm, hxe, hel⟩
  · injection hcs with hcs _
    exact ⟨none, 0, 0, [], hcs, RV.nil _ _, .inl rfl⟩
  · injection hcs with hcs _
    simp only [if_true] at hmm
    have hz : ∀ i, i < len → ∃ (z : Int) (b : Bool), V0 i = .int .i64 z ∧ V1 i = .bool b := fun i hi => by
      obtain ⟨_, _, h2, h3⟩ := hel i (by omega)
      obtain ⟨z, e0, _, _⟩ := DataW.trod_int Tryz.underlying3 h2
      obtain ⟨b, e1, _⟩ := DataW.trod_bool Tryz.underlying4 h3
      simp at e0 e1
      exact ⟨z, b, e0, e1⟩
    have hc := fun i (hi : i < len) => hel i (show i < m by omega)
    let l : List Vis := (List.range len).map fun i => ((match V0 i with | .int _ z => z | _ => 0), (match V1 i with | .bool b => b | _ => false))
    have hll : l.length = len := by simp [l]
    have hwt : ∃ k, k ∈ x.1.weights Tryz.prog 49 ∧ len ≤ k := by
      rw [hxe]
      simp only [DataW.weights, Tryz.underlying49, Tryz.bytesV]
      exact ⟨_, List.mem_cons_self .., by simp; omega⟩
    refine ⟨some a, len, cap, l, hcs, ⟨hll, fun hn => ?_⟩, .inr hwt⟩
    have h0 := (hc 0 (by omega)).1
    obtain ⟨b, off, spot⟩ := a
    have hspot : spot = none := by
      have := World.cell?_spot h0
      simpa [Addr.add] using this
    subst hspot
    refine ⟨b, off, rfl, ?_, fun j hj => ?_⟩
    · have := World.block_lt_of_cell? W _ h0
      simpa [Addr.add] using this
    · obtain ⟨c0, c1, _, _⟩ := hc j hj
      obtain ⟨z, bb, e0, e1⟩ := hz j hj
      rw [add_plain] at c0 c1
      have hg : l.getD j v0 = (z, bb) := by
        simp [l, List.getD, hj, e0, e1]
      rw [c0, hg, e0]
      rw [← Nat.add_assoc] at c1
      rw [c1, e1]
      exact ⟨rfl, rfl⟩

set_option maxRecDepth 100000 in
/-- A slice of slices of visits that comes in. -/
theorem open_rvv {fuel : Nat} {v : Value} {x : DataW H × List MemPlace} (h : DataW.trod enc Tryz.prog W 0 (fun _ => true) true fuel 26 [v] = some x) :
    ∃ A n c vss, v = .slice A n c ∧ RVV W A n vss ∧ (n = 0 ∨ ∃ k, k ∈ x.1.weights Tryz.prog 26 ∧ n ≤ k) ∧ ∀ j, (vss.getD j []).length = 0 ∨ ∃ k, k ∈ x.1.weights Tryz.prog 26 ∧ (vss.getD j []).length ≤ k := by
  rcases open_slice1 Tryz.underlying26 Tryz.cellsVL h with ⟨hcs, _⟩ | ⟨a, len, cap, m, n, V, D, Pl, hcs, _, hl, hm, hmm, hxe, hel⟩
  · injection hcs with hcs _
    exact ⟨none, 0, 0, [], hcs, RVV.nil _ _, .inl rfl, fun j => .inl (by simp)⟩
  · injection hcs with hcs _
    simp only [if_true] at hmm
    have hz : ∀ i, i < len → ∃ q : Option Addr × Nat × Nat × List Vis, V i = .slice q.1 q.2.1 q.2.2.1 ∧ RV W q.1 q.2.1 q.2.2.2 ∧ (q.2.1 = 0 ∨ ∃ k, k ∈ (D i).weights Tryz.prog 49 ∧ q.2.1 ≤ k) := fun i hi => by
      obtain ⟨_, h2⟩ := hel i (by omega)
      obtain ⟨A, n, c, l, e0, e1, e2⟩ := open_rv h2
      exact ⟨(A, n, c, l), e0, e1, e2⟩
    obtain ⟨Q, hQ⟩ := choose_lt (α := Option Addr × Nat × Nat × List Vis) (p := fun i q => V i = .slice q.1 q.2.1 q.2.2.1 ∧ RV W q.1 q.2.1 q.2.2.2 ∧ (q.2.1 = 0 ∨ ∃ k, k ∈ (D i).weights Tryz.prog 49 ∧ q.2.1 ≤ k)) hz
    have hg : ∀ j, j < len → ((List.range len).map fun i => (Q i).2.2.2).getD j [] = (Q j).2.2.2 := fun j hj => by simp [List.getD, hj]
    have hwt : ∃ k, k ∈ x.1.weights Tryz.prog 26 ∧ len ≤ k := by
      rw [hxe]
      simp only [DataW.weights, Tryz.underlying26, Tryz.bytesVL]
      exact ⟨_, List.mem_cons_self .., by simp; omega⟩
    have hwi : ∀ i, i < len → ∀ k ∈ (D i).weights Tryz.prog 49, k ∈ x.1.weights Tryz.prog 26 := fun i hi k hk => by
      rw [hxe]
      simp only [DataW.weights, Tryz.underlying26]
      exact List.mem_cons_of_mem _ (List.mem_append_left _ (wall_mem (List.mem_map.2 ⟨i, List.mem_range.2 hi, rfl⟩) k hk))
    refine ⟨some a, len, cap, (List.range len).map fun i => (Q i).2.2.2, hcs, ⟨by simp, fun hn => ?_⟩, .inr hwt, fun j => ?_⟩
    · have h0 := (hel 0 (by omega)).1
      obtain ⟨b, off, spot⟩ := a
      have hspot : spot = none := by
        have := World.cell?_spot h0
        simpa [Addr.add] using this
      subst hspot
      refine ⟨b, off, rfl, ?_, fun j hj => ?_⟩
      · have := World.block_lt_of_cell? W _ h0
        simpa [Addr.add] using this
      · obtain ⟨c0, _⟩ := hel j (by omega)
        rw [add_plain] at c0
        obtain ⟨e0, e1, _⟩ := hQ j hj
        rw [hg j hj]
        exact ⟨_, _, _, by rw [c0, e0], e1⟩
    · rcases Nat.lt_or_ge j len with hj | hj
      · rw [hg j hj]
        obtain ⟨_, e1, e2⟩ := hQ j hj
        rw [e1.1]
        rcases e2 with e2 | ⟨k, e2, e3⟩
        · exact .inl e2
        · exact .inr ⟨k, hwi j hj k e2, e3⟩
      · have : ((List.range len).map fun i => (Q i).2.2.2).getD j [] = [] := by simp [List.getD, hj]
        rw [this]; exact .inl rfl

set_option maxRecDepth 100000 in
/-- A code that comes in. -/
theorem open_code {base : Nat} {v : Value} {d : DataW H} {p : List MemPlace} (hv : Value.okWide Tryz.prog W .any base 28 v) (h : DataW.Trod enc Tryz.prog W 0 (fun _ => true) true 28 v d p) :
    ∃ C nc cc S ns cs lp vss s, v = dval C nc cc S ns cs lp ∧ RVV W C nc vss ∧ RI W S ns s ∧ (nc = 0 ∨ ∃ k, k ∈ d.weights Tryz.prog 28 ∧ nc ≤ k) ∧ ns ≤ 9223372036854775807 ∧ (∀ j, (vss.getD j []).length = 0 ∨ ∃ k, k ∈ d.weights Tryz.prog 28 ∧ (vss.getD j []).length ≤ k) ∧ (∀ y ∈ s, inI y) ∧ inI lp := by
  obtain ⟨c0, c1, c2, y0, y1, y2, m, rfl, hde, _, hy0, hy1, hy2⟩ := open_agg3 Tryz.underlying28 (by kernel_rfl) Tryz.cellsCode hv h
  obtain ⟨C, nc, cc, vss, rfl, r1, l1, q1⟩ := open_rvv hy0
  obtain ⟨S, ns, cs, s, rfl, r2, l2, q2⟩ := open_ri hy1
  obtain ⟨x, e0, _, wx⟩ := DataW.trod_int Tryz.underlying3 hy2
  simp at e0
  subst e0
  have hw : ∀ k, k ∈ y0.1.weights Tryz.prog 26 → k ∈ d.weights Tryz.prog 28 := fun k hk => by
    rw [hde]
    simp only [DataW.weights, Tryz.underlying28, DataW.weightsEach, List.map_cons, List.map_nil]
    exact List.mem_append_left _ hk
  refine ⟨C, nc, cc, S, ns, cs, x, vss, s, rfl, r1, r2, ?_, l2, fun j => ?_, q2, inI_of_wf wx⟩
  · rcases l1 with l1 | ⟨k, l1, l3⟩
    · exact .inl l1
    · exact .inr ⟨k, hw k l1, l3⟩
  · rcases q1 j with l1 | ⟨k, l1, l3⟩
    · exact .inl l1
    · exact .inr ⟨k, hw k l1, l3⟩

end

def isInt : Value → Bool
  | .int .i64 _ => true
  | _ => false
set_option maxHeartbeats 1600000 in
set_option maxRecDepth 100000 in
/-- few, of a code with too many components. -/
theorem few_big (C S : Option Addr) (nc cc ns cs : Nat) (lp : Int) (vss : List (List Vis)) (w : World) (hC : RVV w C nc vss) (hnc : nc ≤ 281474976710656) (h28 : 28 < nc) :
    Calls Tryz.prog 24 #[dval C nc cc S ns cs lp] w fun e w' => e = .returned (.bool false) ∧ Below w.heap.size w w' := by
  have hd := DB.newT w C nc cc S ns cs lp 28
  have hb0 := below_alloc w (.cells #[.slice C nc cc, .slice S ns cs, .int .i64 lp] 28)
  have HC := Lib.hid hC
  clear hC
  go_enter Tryz.func24, Tryz.ntmps24
  go_upto_region 2 with fail
  generalize w.alloc (.cells #[.slice C nc cc, .slice S ns cs, .int .i64 lp] 28) = wA at *
  obtain ⟨d0, d1, d2, dlt⟩ := hd
  go_wp2
  go_loop [3, 5, 9] (fun s _ i => ∃ k : Nat, k ≤ nc ∧ i = .int .i64 k ∧ ∃ z : Int, s = .int .i64 z) (fun _ _ i => nc - (intOf i).toNat)
  case atStart => exact ⟨0, by omega, rfl, 0, rfl⟩
  case round =>
    obtain ⟨k, hk, rfl, z, rfl⟩ := hrel
    have hk0 : (0 : Int) ≤ (k : Int) := Int.natCast_nonneg _
    by_cases hlt : k < nc
    · obtain ⟨bC, oC, hCe, hbC, hcc⟩ := HC.out.2 (by omega)
      subst hCe
      obtain ⟨A1, n1, c1, hcel0, hrv⟩ := hcc k hlt
      have hcel := (hb0.cell (p := ⟨bC, oC + k, none⟩) hbC).trans hcel0
      have hk1 : (k : Int) < (nc : Int) := by omega
      clear hcc hrv hcel0
      go_wp2
      go_round
      case rel => exact ⟨k + 1, by omega, by go_num, _, rfl⟩
      case measure => simp [intOf]; omega
    · obtain rfl : nc = k := by omega
      have h2' : 28 < (nc : Int) := by omega
      clear hlt hk
      by_cases h1 : ns ≤ 14
      · have h1' : (ns : Int) ≤ 14 := by omega
        go_wp2
        go_ret
        exact ⟨rfl, hb0⟩
      · have h1' : 14 < (ns : Int) := by omega
        go_wp2
        go_ret
        exact ⟨rfl, hb0⟩

end Go.Proofs.YtdacjnmfmhkpiaaGreatDoor

/- A valid code by counting the visits; plain. -/
namespace Go.Proofs.YtdacjnmfmhkpiaaGreatDoor
open Go.RowKit

/-- How many of the visits F are v. -/
def gcnt (F : List Vis) (v : Vis) : Nat := F.countP fun u => decide (u.1 = v.1 ∧ u.2 = v.2)
theorem gcnt_snoc (F : List Vis) (u v : Vis) : gcnt (F ++ [u]) v = gcnt F v + if u.1 = v.1 ∧ u.2 = v.2 then 1 else 0 := by
  unfold gcnt
  rw [List.countP_append]
  by_cases h : u.1 = v.1 ∧ u.2 = v.2 <;> simp [h]
theorem gcnt_le (F : List Vis) (v : Vis) : gcnt F v ≤ F.length := List.countP_le_length
theorem gcnt_pos {F : List Vis} {v : Vis} (h : gcnt F v = 1) : v ∈ F := by
  unfold gcnt at h
  have h2 : 0 < F.countP fun u => decide (u.1 = v.1 ∧ u.2 = v.2) := by omega
  obtain ⟨u, hu, e⟩ := List.countP_pos_iff.1 h2
  have e2 : u = v := by
    have : u.1 = v.1 ∧ u.2 = v.2 := by simpa using e
    exact Prod.ext this.1 this.2
  rw [← e2]; exact hu
theorem gcnt_none {F : List Vis} {v : Vis} (h : v ∉ F) : gcnt F v = 0 := by
  unfold gcnt
  rw [List.countP_eq_zero]
  intro u hu e
  have : u.1 = v.1 ∧ u.2 = v.2 := by simpa using e
  exact h (by rw [← Prod.ext this.1 this.2]; exact hu)
theorem gcnt_nodup {F : List Vis} {v : Vis} (hn : F.Nodup) (h : v ∈ F) : gcnt F v = 1 := by
  obtain ⟨A, B, rfl⟩ := List.append_of_mem h
  have h1 := List.nodup_append.1 hn
  have h2 := List.nodup_cons.1 h1.2.1
  have e : A ++ v :: B = (A ++ [v]) ++ B := by simp
  have ha : gcnt A v = 0 := gcnt_none fun hm => h1.2.2 v hm v (by simp) rfl
  have hb : gcnt B v = 0 := gcnt_none h2.1
  rw [e]
  unfold gcnt at *
  rw [List.countP_append, List.countP_append, ha, hb]
  simp
theorem full_list {α : Type} : ∀ (K F : List α), K.Nodup → (∀ x ∈ K, x ∈ F) → F.length ≤ K.length → F.Nodup ∧ ∀ x ∈ F, x ∈ K
  | [], F, _, _, h => by
    have : F = [] := List.length_eq_zero_iff.1 (by simpa using h)
    subst this
    exact ⟨List.nodup_nil, fun x hx => hx⟩
  | a :: K, F, hn, hs, hl => by
    obtain ⟨h1, h2⟩ := List.nodup_cons.1 hn
    obtain ⟨A, B, rfl⟩ := List.append_of_mem (hs a (by simp))
    have hsub : ∀ x ∈ K, x ∈ A ++ B := fun x hx => by
      have := hs x (by simp [hx])
      rcases List.mem_append.1 this with h | h
      · simp [h]
      · rcases List.mem_cons.1 h with e | h
        · subst e; exact absurd hx h1
        · simp [h]
    obtain ⟨i1, i2⟩ := full_list K (A ++ B) h2 hsub (by simp at hl ⊢; omega)
    have hp : (A ++ a :: B).Perm (a :: (A ++ B)) := List.perm_middle
    refine ⟨hp.nodup_iff.2 (List.nodup_cons.2 ⟨fun h => h1 (i2 a h), i1⟩), fun x hx => ?_⟩
    rcases List.mem_cons.1 (hp.mem_iff.1 hx) with e | h
    · simp [e]
    · simp [i2 x h]
/-- All visits of n crossings. -/
def allV : Nat → List Vis
  | 0 => []
  | n + 1 => ((n : Int), true) :: ((n : Int), false) :: allV n
theorem mem_allV {n : Nat} {v : Vis} : v ∈ allV n ↔ 0 ≤ v.1 ∧ v.1 < n := by
  induction n with
  | zero => simp only [allV, List.not_mem_nil, false_iff]; omega
  | succ n ih =>
    obtain ⟨c, o⟩ := v
    simp only [allV, List.mem_cons, ih, Prod.mk.injEq]
    constructor
    · rintro (⟨h, _⟩ | ⟨h, _⟩ | h) <;> omega
    · intro h
      by_cases e : c = n
      · cases o
        · exact .inr (.inl ⟨e, rfl⟩)
        · exact .inl ⟨e, rfl⟩
      · exact .inr (.inr (by omega))
theorem allV_nodup (n : Nat) : (allV n).Nodup := by
  induction n with
  | zero => exact List.nodup_nil
  | succ n ih =>
    simp only [allV, List.nodup_cons, List.mem_cons, mem_allV, Prod.mk.injEq, not_or]
    refine ⟨⟨by simp, by omega⟩, by omega, ih⟩
theorem allV_length (n : Nat) : (allV n).length = 2 * n := by
  induction n with
  | zero => rfl
  | succ n ih => simp only [allV, List.length_cons, ih]; omega
/-- Once over and once under at each of n crossings. -/
def onceAt (F : List Vis) (n : Nat) : Prop := ∀ j, j < n → gcnt F ((j : Int), true) = 1 ∧ gcnt F ((j : Int), false) = 1
theorem visB_count {vss : List (List Vis)} {n : Nat} (h1 : ∀ j, j < vss.length → vss.getD j [] ≠ []) (h2 : onceAt vss.flatten n) : visB vss n = decide (vss.flatten.length = 2 * n) := by
  by_cases hl : vss.flatten.length = 2 * n
  · rw [decide_eq_true hl]
    have hsub : ∀ x ∈ allV n, x ∈ vss.flatten := fun x hx => by
      obtain ⟨c, o⟩ := x
      obtain ⟨h3, h4⟩ := mem_allV.1 hx
      simp only at h3 h4
      obtain ⟨j, rfl⟩ := Int.eq_ofNat_of_zero_le h3
      have := h2 j (by omega)
      cases o
      · exact gcnt_pos this.2
      · exact gcnt_pos this.1
    obtain ⟨k1, k2⟩ := full_list (allV n) vss.flatten (allV_nodup n) hsub (by rw [allV_length]; omega)
    have := visB_end h1 ⟨k1, fun v hv => mem_allV.1 (k2 v hv)⟩
    rw [this, decide_eq_true hl]
  · rw [decide_eq_false hl]
    cases hv : visB vss n with
    | false => rfl
    | true => exact absurd ((visB_iff _ _).1 hv).2.2 hl
theorem visB_once {vss : List (List Vis)} {n : Nat} (hv : visB vss n = true) (j : Nat) (hj : j < n) (o : Bool) : gcnt vss.flatten ((j : Int), o) = 1 := by
  obtain ⟨_, ⟨hn, hr⟩, hl⟩ := (visB_iff _ _).1 hv
  refine gcnt_nodup hn ?_
  obtain ⟨k1, k2⟩ := full_list vss.flatten (allV n) hn (fun x hx => mem_allV.2 (hr x hx)) (by rw [allV_length]; omega)
  exact k2 _ (mem_allV.2 ⟨by simp, by simp; omega⟩)
/-- A visit that is not made once: not valid. -/
theorem visB_not {vss : List (List Vis)} {n j : Nat} (hj : j < n) (o : Bool) (h : gcnt vss.flatten ((j : Int), o) ≠ 1) : visB vss n = false := by
  cases hv : visB vss n with
  | false => rfl
  | true => exact absurd (visB_once hv j hj o) h

/-- One word more. -/
theorem join_snoc (ws : List (List UInt8)) (i : Nat) (h : i < ws.length) : Lib.join (ws.take (i + 1)) [32] = Lib.join (ws.take i) [32] ++ (if 0 < i then [32] else []) ++ ws.getD i [] := by
  cases ws with
  | nil => simp at h
  | cons x r =>
    cases i with
    | zero => simp [Lib.join_cons, Lib.join_nil, Lib.joinTail]
    | succ i =>
      have hi : i < r.length := by simpa using h
      have hg : r[i]? = some r[i] := List.getElem?_eq_getElem hi
      rw [List.take_succ_cons, List.take_succ_cons, Lib.join_cons, Lib.join_cons, Lib.joinTail_take_succ _ _ _ _ hg]
      simp [List.getD, hi]

end Go.Proofs.YtdacjnmfmhkpiaaGreatDoor
