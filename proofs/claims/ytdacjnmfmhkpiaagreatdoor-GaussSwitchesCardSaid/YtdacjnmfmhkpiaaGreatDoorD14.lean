import Derived.Test.YtdacjnmfmhkpiaaGreatDoorShelf
import Derived.Test.YtdacjnmfmhkpiaaGreatDoorD05
import Derived.Lib.FrozenHead2
import Derived.Lib.OthersKept
import Derived.Test.YtdacjnmfmhkpiaaGreatDoorD09
import Derived.Shelf.Strings.IndexAny
import Derived.Lib.Atoi
import Derived.Lib.IndexAny
import Derived.Test.YtdacjnmfmhkpiaaGreatDoorD07
import Derived.Shelf.Bits.Mul64
import Derived.Ground.Names2Prog
import Derived.Test.YtdacjnmfmhkpiaaGreatDoorRows
/- strings.Builder at this dump: copyCheck, WriteByte, WriteString (the shelf's do not lie: this library's copyCheck has another body). -/
namespace Go.Proofs.YtdacjnmfmhkpiaaGreatDoor
open Go.RowKit

theorem Tryz.sizeBuilder : (Tryz.prog.info? 107).map (·.size) = some 2 := by kernel_rfl
theorem Tryz.liesBuilder : liesAt Tryz.prog Tryz.prog.depth 107 (2 / Tryz.prog.cellsOf 107) 0 107 1 = true := by kernel_rfl
theorem Tryz.infoByteP : (Tryz.prog.info? 5).map (fun i => (i.zero, i.size, i.bytes)) = some (some (.int .u8 0), 1, 1) := by kernel_rfl

set_option maxHeartbeats 1000000 in
set_option maxRecDepth 100000 in
theorem copyCheck_used (b : Nat) (w : World) (h0 : w.cell? ⟨b, 0, none⟩ = some (.pointer (some ⟨b, 0, none⟩))) :
    Calls Tryz.prog 96 #[.pointer (some ⟨b, 0, none⟩)] w fun e w' => e = .returned (.tuple #[]) ∧ w' = w := by
  obtain ⟨j, hj, _⟩ := Option.map_eq_some_iff.1 Tryz.sizeBuilder
  go_enter Tryz.func96, Tryz.ntmps96
  go_wp2
  rw [Lib.run_neq_ptr_same w _ Tryz.underlying104 hj]
  go_wp2
  go_end0
  exact ⟨rfl, rfl⟩

set_option maxHeartbeats 1000000 in
set_option maxRecDepth 100000 in
theorem copyCheck_fresh (b : Nat) (w : World) (h0 : w.cell? ⟨b, 0, none⟩ = some (.pointer none)) (hsh : w.shape? b = some (107, 2)) (hfz : w.frozen? ⟨b, 0, none⟩ = false) :
    Calls Tryz.prog 96 #[.pointer (some ⟨b, 0, none⟩)] w fun e w' => e = .returned (.tuple #[]) ∧ w' = w.setCell ⟨b, 0, none⟩ (.pointer (some ⟨b, 0, none⟩)) := by
  obtain ⟨j, hj, hjs⟩ := Option.map_eq_some_iff.1 Tryz.sizeBuilder
  go_enter Tryz.func96, Tryz.ntmps96
  go_wp2
  rw [Lib.run_to_unsafe w ⟨b, 0, none⟩ Tryz.underlying104 Tryz.underlying142 hj (by rw [hjs]; decide) hsh (Nat.zero_lt_succ 1)]
  simp only [Result.andThen]
  rw [Oper.upon_value]
  go_wp2
  rw [run_callFunc_extern Tryz.func105 (by kernel_rfl) (by kernel_rfl) (by kernel_rfl) (e := Extern.AbiNoEscape.same) (by kernel_rfl)]
  rw [Lib.run_noEscape]
  simp only [Result.andThen]
  rw [Oper.upon_value]
  go_wp2
  rw [Lib.run_from_unsafe w ⟨b, 0, none⟩ Tryz.underlying142 Tryz.underlying104 hj hsh Tryz.liesBuilder]
  simp only [Result.andThen]
  rw [Oper.upon_value]
  go_wp2
  go_end0
  exact ⟨rfl, rfl⟩

/-- The builder in block b holds the bytes l; what the call owns lies in blocks from B on. -/
abbrev Bld (w : World) (B b : Nat) (l : List UInt8) : Prop := Lib.IsBuilderF 107 5 B b (Lib.byteCells l) w
abbrev Kept (b : Nat) (w w' : World) : Prop := Lib.OthersKept 5 (some b) w w'

theorem copyCheck_any (B b : Nat) (bs : List Value) (w : World) (h : Lib.IsBuilderF 107 5 B b bs w) :
    Calls Tryz.prog 96 #[.pointer (some ⟨b, 0, none⟩)] w fun e w' => e = .returned (.tuple #[]) ∧ Lib.BuilderAtF 107 5 B b (.pointer (some ⟨b, 0, none⟩)) bs w' ∧ Below B w w' ∧ Kept b w w' := by
  rcases h with h | h
  · refine (copyCheck_fresh b w h.cell0 h.shape h.frozen0).mono ?_
    rintro e w' ⟨rfl, rfl⟩
    exact ⟨rfl, h.used _, (Below.refl B w).setCell (p := ⟨b, 0, none⟩) h.1 _, (Lib.OthersKept.refl _ _ w).setCell ⟨b, 0, none⟩ rfl _⟩
  · refine (copyCheck_used b w h.cell0).mono ?_
    rintro e w' ⟨rfl, rfl⟩
    exact ⟨rfl, h, Below.refl B _, Lib.OthersKept.refl _ _ _⟩

theorem heap_lt {w : World} {b : Nat} {o : Obj} (h : w.heap[b]? = some o) : b < w.heap.size := (Array.getElem?_eq_some_iff.1 h).1

set_option maxHeartbeats 2000000 in
set_option maxRecDepth 100000 in
theorem writeByte_any (B b : Nat) (l : List UInt8) (x : UInt8) (c : Int) (hc : c = (x.toNat : Int)) (w : World) (h : Bld w B b l) (hlen : l.length ≤ 1000000000) (hBw : B ≤ w.heap.size) :
    Calls Tryz.prog 79 #[.pointer (some ⟨b, 0, none⟩), .int .u8 c] w fun e w' => e = .returned .nilIface ∧ Bld w' B b (l ++ [x]) ∧ Below B w w' ∧ Kept b w w' := by
  obtain ⟨i0, hi, hz0, hz1, hz2⟩ := info_parts Tryz.infoByteP
  have hll : (Lib.byteCells l).length = l.length := Lib.byteCells_length l
  have hbc : Lib.byteCells (l ++ [x]) = Lib.byteCells l ++ [.int .u8 c] := by rw [Lib.byteCells_append, hc]; rfl
  have HBC := Lib.hid hbc
  have HLL := Lib.hid hll
  clear hbc hc hll
  go_enter Tryz.func79, Tryz.ntmps79
  go_wp2_with (go_at_call 96; refine (copyCheck_any B b _ _ h).mono ?_)
  rintro e w1 ⟨rfl, h1, hb1, hk1⟩
  obtain ⟨hB, v, hbk, hown, hne⟩ := h1
  have c0 : w1.cell? ⟨b, 0, none⟩ = some (.pointer (some ⟨b, 0, none⟩)) := by rw [Lib.cell_of_heap hbk]; rfl
  have c1 : w1.cell? ⟨b, 1, none⟩ = some v := by rw [Lib.cell_of_heap hbk]; rfl
  have hs1 := hb1.size
  go_wp2_with (at_builtin; refine wpList_append_ownF _ rfl _ _ 105 rfl B 5 i0 (.int .u8 0) 1 1 Tryz.underlying105 hi hz0 hz1 hz2 rfl (by decide) _ _ _ rfl (hown.alloc _) ⟨w1.heap.size, 0, none⟩ 1 1 [.int .u8 c] rfl rfl ?c1 ?c2 ?c3 ?c4 ?c5 ?_)
  case c1 =>
    intro j u hj
    match j, hj with
    | 0, hj => simp at hj; subst hj; simp [Addr.add]
  case c2 => intro u hu; simp at hu; subst hu; rfl
  case c3 => have := HLL.out; unfold maxLen; omega
  case c4 => have := HLL.out; omega
  case c5 => simp; omega
  intro v' w2 hown' hgrow _
  have hlt := heap_lt hbk
  have hb2 : w2.heap[b]? = some (.cells #[.pointer (some ⟨b, 0, none⟩), v] 107 (0, 0)) := by
    rw [hgrow.block b (by simp; omega) (fun e => hne e.symm), Lib.alloc_old w1 _ b hlt]
    exact hbk
  have d0 : w2.cell? ⟨b, 0, none⟩ = some (.pointer (some ⟨b, 0, none⟩)) := by rw [Lib.cell_of_heap hb2]; rfl
  have d1 : w2.cell? ⟨b, 1, none⟩ = some v := by rw [Lib.cell_of_heap hb2]; rfl
  have f1 : w2.frozen? ⟨b, 1, none⟩ = false := Lib.frozen_of_heap hb2 1
  obtain ⟨g, cap, rfl⟩ : ∃ g cap, v' = .slice (some ⟨g, 0, none⟩) ((Lib.byteCells l).length + 1) cap := by
    rcases hown'.2 with ⟨_, h0⟩ | ⟨g, cap, cur, fz, hv, _⟩
    · omega
    · exact ⟨g, cap, hv⟩
  go_wp2
  go_ret
  refine ⟨rfl, .inr ?_, ?_, ((hk1.alloc _).grown hgrow (Lib.ownsRowF_kind (hown.alloc _))).setCell ⟨b, 1, none⟩ rfl _⟩
  · rw [HBC.out]
    exact Lib.BuilderAtF.put (T := 107) (e := 5) hB hb2 (bs' := Lib.byteCells l ++ [.int .u8 c]) (by simpa using hown') (by decide)
  · exact ((hb1.alloc (by omega) _).grown hgrow (by simp; omega) (fun k hk => (hown.lt k hk).1)).setCell (p := ⟨b, 1, none⟩) hB _

set_option maxHeartbeats 2000000 in
set_option maxRecDepth 100000 in
theorem writeString_any (B b : Nat) (l m : List UInt8) (w : World) (h : Bld w B b l) (hlen : l.length ≤ 1000000000) (hlm : m.length ≤ 1000000000) (hBw : B ≤ w.heap.size) :
    Calls Tryz.prog 80 #[.pointer (some ⟨b, 0, none⟩), .string ⟨m.toArray⟩] w fun e w' => (∃ k : Nat, e = .returned (.tuple #[.int .i64 k, .nilIface])) ∧ Bld w' B b (l ++ m) ∧ Below B w w' ∧ Kept b w w' := by
  obtain ⟨i0, hi, hz0, hz1, hz2⟩ := info_parts Tryz.infoByteP
  have hll : (Lib.byteCells l).length = l.length := Lib.byteCells_length l
  have hbc : Lib.byteCells (l ++ m) = Lib.byteCells l ++ Lib.strCells ⟨m.toArray⟩ := Lib.byteCells_append l m
  have hsz : (ByteArray.mk m.toArray).size = m.length := by simp [ByteArray.size]
  have HBC := Lib.hid hbc
  obtain ⟨s, hs⟩ : ∃ s : ByteArray, s = ⟨m.toArray⟩ := ⟨_, rfl⟩
  rw [← hs] at hsz HBC ⊢
  have HLL := Lib.hid hll
  have HSZ := Lib.hid hsz
  clear hbc hs hll hsz
  go_enter Tryz.func80, Tryz.ntmps80
  go_wp2_with (go_at_call 96; refine (copyCheck_any B b _ _ h).mono ?_)
  rintro e w1 ⟨rfl, h1, hb1, hk1⟩
  obtain ⟨hB, v, hbk, hown, hne⟩ := h1
  have c0 : w1.cell? ⟨b, 0, none⟩ = some (.pointer (some ⟨b, 0, none⟩)) := by rw [Lib.cell_of_heap hbk]; rfl
  have c1 : w1.cell? ⟨b, 1, none⟩ = some v := by rw [Lib.cell_of_heap hbk]; rfl
  have hs1 := hb1.size
  go_wp2_with (at_builtin; refine Lib.wpList_append_own_stringF _ rfl _ _ 105 9 rfl B 5 i0 Tryz.underlying105 Tryz.underlying9 hi hz0 hz1 hz2 _ _ _ rfl hown s rfl ?c3 ?c4 ?c5 ?_)
  case c3 => have := HLL.out; have := HSZ.out; unfold maxLen; omega
  case c4 => have := HLL.out; have := HSZ.out; omega
  case c5 => omega
  intro v' w2 hown' hgrow _
  have hlt := heap_lt hbk
  have hb2 : w2.heap[b]? = some (.cells #[.pointer (some ⟨b, 0, none⟩), v] 107 (0, 0)) := by
    rw [hgrow.block b hlt (fun e => hne e.symm)]
    exact hbk
  have d0 : w2.cell? ⟨b, 0, none⟩ = some (.pointer (some ⟨b, 0, none⟩)) := by rw [Lib.cell_of_heap hb2]; rfl
  have d1 : w2.cell? ⟨b, 1, none⟩ = some v := by rw [Lib.cell_of_heap hb2]; rfl
  have f1 : w2.frozen? ⟨b, 1, none⟩ = false := Lib.frozen_of_heap hb2 1
  obtain ⟨ao, n', cap, rfl⟩ : ∃ ao n' cap, v' = .slice ao n' cap := by
    rcases hown'.2 with ⟨hv, _⟩ | ⟨g, cap, cur, fz, hv, _⟩
    · exact ⟨_, _, _, hv⟩
    · exact ⟨_, _, _, hv⟩
  go_wp2
  go_ret2
  refine ⟨⟨s.size, rfl⟩, .inr ?_, ?_, (hk1.grown hgrow (Lib.ownsRowF_kind hown)).setCell ⟨b, 1, none⟩ rfl _⟩
  · rw [HBC.out]
    exact Lib.BuilderAtF.put (T := 107) (e := 5) hB hb2 (bs' := Lib.byteCells l ++ Lib.strCells s) (by simpa [Lib.strCells_length] using hown') (by decide)
  · exact (hb1.grown hgrow (by omega) (fun k hk => (hown.lt k hk).1)).setCell (p := ⟨b, 1, none⟩) hB _

end Go.Proofs.YtdacjnmfmhkpiaaGreatDoor

/- Walk: textOf. -/
namespace Go.Proofs.YtdacjnmfmhkpiaaGreatDoor
open Go.RowKit

/-- The text of a visit. -/
def vTxt (s : List Int) (v : Vis) : List UInt8 := (if v.2 then 79 else 85) :: (Lib.decDigits (v.1.toNat + 1) ++ [if s.getD v.1.toNat 0 = 1 then 43 else 45])
/-- The text of a sequence of visits. -/
def lTxt (s : List Int) (l : List Vis) : List UInt8 := l.flatMap (vTxt s)
theorem lTxt_succ (s : List Int) (l : List Vis) (q : Nat) (h : q < l.length) : lTxt s (l.take (q + 1)) = lTxt s (l.take q) ++ vTxt s (l.getD q v0) := by
  unfold lTxt
  rw [take_succ_getD l v0 q h, List.flatMap_append]; simp
theorem dec_small (c : Nat) (h : c < 100) : (Lib.decDigits c).length ≤ 2 := by
  unfold Lib.decDigits
  split
  · simp
  · unfold Lib.decDigits
    split
    · simp
    · omega
theorem vTxt_len (s : List Int) (v : Vis) (h : v.1.toNat + 1 < 100) : (vTxt s v).length ≤ 4 := by
  unfold vTxt
  have := dec_small _ h
  simp only [List.length_cons, List.length_append, List.length_nil]
  omega
theorem itoa_at (c : Nat) (h : c < 99) (w : World) : Calls Tryz.prog 81 #[.int .i64 ((c : Int) + 1)] w fun e w' => e = .returned (.string ⟨(Lib.decDigits (c + 1)).toArray⟩) ∧ w' = w := by
  have := Tryz.strconv_Itoa_small (c + 1) (by omega) w
  rw [show ((c + 1 : Nat) : Int) = (c : Int) + 1 by omega] at this
  exact this
theorem bld_kept {w w' : World} {b g : Nat} {x y : Value} (h : w.heap[g]? = some (.cells #[x, y] 51 (0, 0))) (hne : g ≠ b) (k : Kept b w w') : w'.heap[g]? = some (.cells #[x, y] 51 (0, 0)) :=
  k g _ h (fun e => hne (Option.some.inj e)) (fun c fz e => by injection e with _ e2 _; exact absurd e2 (by decide))

set_option maxHeartbeats 3200000 in
set_option maxRecDepth 100000 in
theorem textOf_any (A S : Option Addr) (n c ns cs : Nat) (l : List Vis) (s : List Int) (w : World) (hA : RV w A n l) (hS : RI w S ns s) (hns : ns ≤ 64) (hn : n ≤ 1000000) (hin : ∀ i, i < n → 0 ≤ (l.getD i v0).1 ∧ (l.getD i v0).1 < ns) :
    Calls Tryz.prog 55 #[.slice A n c, .slice S ns cs] w fun e w' => e = .returned (.string ⟨(lTxt s l).toArray⟩) ∧ Below w.heap.size w w' := by
  have HIN := Lib.hid hin
  have HA := Lib.hid hA
  have HS := Lib.hid hS
  have HLN := Lib.hid hA.1
  have hb0 := below_alloc w (.cells #[.pointer none, .slice none 0 0] 107)
  have hB0 : Bld (w.alloc (.cells #[.pointer none, .slice none 0 0] 107)) w.heap.size w.heap.size (lTxt s (l.take 0)) := Lib.IsBuilderF.of (Lib.fresh_isBuilder 107 5 w)
  clear hin hA hS
  go_enter Tryz.func55, Tryz.ntmps55
  go_upto_region 2 with fail
  generalize w.alloc (.cells #[.pointer none, .slice none 0 0] 107) = wA at hb0 hB0 ⊢
  have HB0 := Lib.hid hB0
  clear hB0
  go_wp2
  go_loopw [7, 8, 9, 12] (fun _ _ _ i wr => ∃ q : Nat, q ≤ n ∧ i = .int .i64 q ∧ Below w.heap.size w wr ∧ Bld wr w.heap.size w.heap.size (lTxt s (l.take q)) ∧ (lTxt s (l.take q)).length ≤ 4 * q) (fun _ _ _ i _ => n - (intOf i).toNat)
  case atStart => exact ⟨0, by omega, rfl, hb0, HB0.out, by simp [lTxt]⟩
  case round =>
    obtain ⟨q, hq, rfl, hbq, hbl, hlen⟩ := hrel
    have hq0 : (0 : Int) ≤ (q : Int) := Int.natCast_nonneg _
    by_cases hql : q < n
    · obtain ⟨b1, o1, hAe, hb1, hcv⟩ := (HA.out.keep hbq).2 (by omega)
      subst hAe
      obtain ⟨z0, z1⟩ := hcv q hql
      obtain ⟨iu0, iu1⟩ := HIN.out q hql
      have hsuc := lTxt_succ s l q (by rw [HLN.out]; exact hql)
      obtain ⟨v, hv⟩ : ∃ v, l.getD q v0 = v := ⟨_, rfl⟩
      rw [hv] at z0 z1 iu0 iu1 hsuc
      obtain ⟨vc, vo⟩ := v
      simp only at z0 z1 iu0 iu1
      obtain ⟨cu, rfl⟩ := Int.eq_ofNat_of_zero_le iu0
      have hcu : cu < ns := by omega
      have hcui : (cu : Int) < (ns : Int) := by omega
      have hq1 : (q : Int) < (n : Int) := by omega
      have hvl := vTxt_len s ((cu : Int), vo) (by simp; omega)
      have hlen1 : (lTxt s (l.take (q + 1))).length ≤ 4 * (q + 1) := by rw [hsuc, List.length_append]; omega
      obtain ⟨bS, oS, hSe, hbS, hcS⟩ := HS.out.2 (by omega)
      subst hSe
      have hsg := hcS cu hcu
      obtain ⟨sg, hsge⟩ : ∃ sg, s.getD cu 0 = sg := ⟨_, rfl⟩
      rw [hsge] at hsg
      obtain ⟨L, hL⟩ : ∃ L, lTxt s (l.take q) = L := ⟨_, rfl⟩
      rw [hL] at hbl hlen hsuc
      have hvt : vTxt s ((cu : Int), vo) = [if vo then 79 else 85] ++ Lib.decDigits (cu + 1) ++ [if sg = 1 then 43 else 45] := by
        unfold vTxt; rw [show ((cu : Int)).toNat = cu by omega, hsge]; rfl
      rw [hvt] at hsuc
      have HSUC := Lib.hid hsuc
      have HLEN1 := Lib.hid hlen1
      have hdl := dec_small (cu + 1) (by omega)
      have hblX := hbl.alloc (.cells #[.int .i64 (cu : Nat), .bool vo] 51)
      have hbX := below_step hbq (below_alloc wr (.cells #[.int .i64 (cu : Nat), .bool vo] 51))
      have hh : (wr.alloc (.cells #[.int .i64 (cu : Nat), .bool vo] 51)).heap[wr.heap.size]? = some (.cells #[.int .i64 (cu : Nat), .bool vo] 51 (0, 0)) := heap_alloc_new wr _
      have hsgX := (hbX.cell (p := ⟨bS, oS + cu, none⟩) hbS).trans hsg
      have hwlt : w.heap.size < wr.heap.size := by
        rcases hbl with h | h <;> exact heap_lt h.2.choose_spec.1
      have HBL := Lib.hid hblX
      clear hcv hv hsuc hlen1 hvt hvl hcS hL hblX hbl iu0
      go_upto_region 5 with fail
      generalize wr.alloc (.cells #[.int .i64 (cu : Nat), .bool vo] 51) = wX at *
      obtain ⟨gV, hgV⟩ : ∃ g, wr.heap.size = g := ⟨_, rfl⟩
      rw [hgV] at hh hwlt ⊢
      have hgne : gV ≠ w.heap.size := by omega
      have hsX := hbX.size
      have x0 : wX.cell? ⟨gV, 0, none⟩ = some (.int .i64 (cu : Nat)) := (Lib.cell_of_heap hh 0).trans rfl
      clear z0 z1 hgV hsg
      cases vo with
      | true =>
        by_cases hs1 : sg = 1
        · subst hs1
          have hs1 := True.intro
          have HE : Hid (lTxt s (l.take (q + 1)) = L ++ [79] ++ Lib.decDigits (cu + 1) ++ [43]) := Lib.hid (by rw [HSUC.out]; simp)
          have x1 : wX.cell? ⟨gV, 1, none⟩ = some (.bool true) := (Lib.cell_of_heap hh 1).trans rfl
          clear HSUC
          go_wp2_with (first
            | (go_at_call 79; ((with_reducible refine (writeByte_any _ _ (L ++ [79] ++ Lib.decDigits (cu + 1)) 43 43 rfl w3 hB3 (by simp only [List.length_append, List.length_cons, List.length_nil]; omega) (by omega)).mono ?_); rintro e w4 ⟨rfl, hB4, hb4, hk4⟩))
            | (go_at_call 80; ((with_reducible refine (writeString_any _ _ (L ++ [79]) (Lib.decDigits (cu + 1)) w2 hB2 (by simp only [List.length_append, List.length_cons, List.length_nil]; omega) (by omega) (by omega)).mono ?_); rintro e w3 ⟨⟨kk, rfl⟩, hB3, hb3, hk3⟩; have hs3 := hb3.size))
            | (go_at_call 81; ((with_reducible refine (itoa_at cu (by omega) _).mono ?_); rintro e w2' ⟨rfl, hw⟩; rw [hw]; clear hw))
            | (go_at_call 79; ((with_reducible refine (writeByte_any _ _ L 79 79 rfl wX HBL.out (by omega) (by omega)).mono ?_); rintro e w2 ⟨rfl, hB2, hb2, hk2⟩; have hs2 := hb2.size; have x2 : w2.cell? ⟨gV, 0, none⟩ = some (.int .i64 (cu : Nat)) := (Lib.cell_of_heap (bld_kept hh hgne hk2) 0).trans rfl)))
          go_roundw
          case rel => exact ⟨q + 1, by omega, by go_num, (hbX.trans (hb2.trans hb3)).trans hb4, by rw [HE.out]; exact hB4, HLEN1.out⟩
          case measure => simp [intOf]; omega
        · have hs2 : (sg == 1) = false := by simp [hs1]
          have HE : Hid (lTxt s (l.take (q + 1)) = L ++ [79] ++ Lib.decDigits (cu + 1) ++ [45]) := Lib.hid (by rw [HSUC.out]; simp [hs1])
          have x1 : wX.cell? ⟨gV, 1, none⟩ = some (.bool true) := (Lib.cell_of_heap hh 1).trans rfl
          clear HSUC
          go_wp2_with (first
            | (go_at_call 79; ((with_reducible refine (writeByte_any _ _ (L ++ [79] ++ Lib.decDigits (cu + 1)) 45 45 rfl w3 hB3 (by simp only [List.length_append, List.length_cons, List.length_nil]; omega) (by omega)).mono ?_); rintro e w4 ⟨rfl, hB4, hb4, hk4⟩))
            | (go_at_call 80; ((with_reducible refine (writeString_any _ _ (L ++ [79]) (Lib.decDigits (cu + 1)) w2 hB2 (by simp only [List.length_append, List.length_cons, List.length_nil]; omega) (by omega) (by omega)).mono ?_); rintro e w3 ⟨⟨kk, rfl⟩, hB3, hb3, hk3⟩; have hs3 := hb3.size))
            | (go_at_call 81; ((with_reducible refine (itoa_at cu (by omega) _).mono ?_); rintro e w2' ⟨rfl, hw⟩; rw [hw]; clear hw))
            | (go_at_call 79; ((with_reducible refine (writeByte_any _ _ L 79 79 rfl wX HBL.out (by omega) (by omega)).mono ?_); rintro e w2 ⟨rfl, hB2, hb2, hk2⟩; have hs2 := hb2.size; have x2 : w2.cell? ⟨gV, 0, none⟩ = some (.int .i64 (cu : Nat)) := (Lib.cell_of_heap (bld_kept hh hgne hk2) 0).trans rfl)))
          go_roundw
          case rel => exact ⟨q + 1, by omega, by go_num, (hbX.trans (hb2.trans hb3)).trans hb4, by rw [HE.out]; exact hB4, HLEN1.out⟩
          case measure => simp [intOf]; omega
      | false =>
        by_cases hs1 : sg = 1
        · subst hs1
          have hs1 := True.intro
          have HE : Hid (lTxt s (l.take (q + 1)) = L ++ [85] ++ Lib.decDigits (cu + 1) ++ [43]) := Lib.hid (by rw [HSUC.out]; simp)
          have x1 : wX.cell? ⟨gV, 1, none⟩ = some (.bool false) := (Lib.cell_of_heap hh 1).trans rfl
          clear HSUC
          go_wp2_with (first
            | (go_at_call 79; ((with_reducible refine (writeByte_any _ _ (L ++ [85] ++ Lib.decDigits (cu + 1)) 43 43 rfl w3 hB3 (by simp only [List.length_append, List.length_cons, List.length_nil]; omega) (by omega)).mono ?_); rintro e w4 ⟨rfl, hB4, hb4, hk4⟩))
            | (go_at_call 80; ((with_reducible refine (writeString_any _ _ (L ++ [85]) (Lib.decDigits (cu + 1)) w2 hB2 (by simp only [List.length_append, List.length_cons, List.length_nil]; omega) (by omega) (by omega)).mono ?_); rintro e w3 ⟨⟨kk, rfl⟩, hB3, hb3, hk3⟩; have hs3 := hb3.size))
            | (go_at_call 81; ((with_reducible refine (itoa_at cu (by omega) _).mono ?_); rintro e w2' ⟨rfl, hw⟩; rw [hw]; clear hw))
            | (go_at_call 79; ((with_reducible refine (writeByte_any _ _ L 85 85 rfl wX HBL.out (by omega) (by omega)).mono ?_); rintro e w2 ⟨rfl, hB2, hb2, hk2⟩; have hs2 := hb2.size; have x2 : w2.cell? ⟨gV, 0, none⟩ = some (.int .i64 (cu : Nat)) := (Lib.cell_of_heap (bld_kept hh hgne hk2) 0).trans rfl)))
          go_roundw
          case rel => exact ⟨q + 1, by omega, by go_num, (hbX.trans (hb2.trans hb3)).trans hb4, by rw [HE.out]; exact hB4, HLEN1.out⟩
          case measure => simp [intOf]; omega
        · have hs2 : (sg == 1) = false := by simp [hs1]
          have HE : Hid (lTxt s (l.take (q + 1)) = L ++ [85] ++ Lib.decDigits (cu + 1) ++ [45]) := Lib.hid (by rw [HSUC.out]; simp [hs1])
          have x1 : wX.cell? ⟨gV, 1, none⟩ = some (.bool false) := (Lib.cell_of_heap hh 1).trans rfl
          clear HSUC
          go_wp2_with (first
            | (go_at_call 79; ((with_reducible refine (writeByte_any _ _ (L ++ [85] ++ Lib.decDigits (cu + 1)) 45 45 rfl w3 hB3 (by simp only [List.length_append, List.length_cons, List.length_nil]; omega) (by omega)).mono ?_); rintro e w4 ⟨rfl, hB4, hb4, hk4⟩))
            | (go_at_call 80; ((with_reducible refine (writeString_any _ _ (L ++ [85]) (Lib.decDigits (cu + 1)) w2 hB2 (by simp only [List.length_append, List.length_cons, List.length_nil]; omega) (by omega) (by omega)).mono ?_); rintro e w3 ⟨⟨kk, rfl⟩, hB3, hb3, hk3⟩; have hs3 := hb3.size))
            | (go_at_call 81; ((with_reducible refine (itoa_at cu (by omega) _).mono ?_); rintro e w2' ⟨rfl, hw⟩; rw [hw]; clear hw))
            | (go_at_call 79; ((with_reducible refine (writeByte_any _ _ L 85 85 rfl wX HBL.out (by omega) (by omega)).mono ?_); rintro e w2 ⟨rfl, hB2, hb2, hk2⟩; have hs2 := hb2.size; have x2 : w2.cell? ⟨gV, 0, none⟩ = some (.int .i64 (cu : Nat)) := (Lib.cell_of_heap (bld_kept hh hgne hk2) 0).trans rfl)))
          go_roundw
          case rel => exact ⟨q + 1, by omega, by go_num, (hbX.trans (hb2.trans hb3)).trans hb4, by rw [HE.out]; exact hB4, HLEN1.out⟩
          case measure => simp [intOf]; omega
    · obtain rfl : q = n := by omega
      have htl : l.take q = l := by rw [← HLN.out, List.take_length]
      rw [htl] at hbl hlen
      have HBL := Lib.hid hbl
      have hsr := hbq.size
      clear hbl htl hql hq
      go_wp2_with (go_at_call 82; ((with_reducible refine (Tryz.Builder_String_any_k w.heap.size w.heap.size (lTxt s l) _ HBL.out (by omega)).mono ?_); rintro e w2 ⟨rfl, _, hb2, _⟩))
      go_ret
      exact ⟨rfl, hbq.trans hb2⟩

end Go.Proofs.YtdacjnmfmhkpiaaGreatDoor

/- Words of a code's text: plain facts for reading them. -/
namespace Go.Proofs.YtdacjnmfmhkpiaaGreatDoor

/-- The digits of a number below 100. -/
def dig2 (i : Nat) : List UInt8 := if i < 10 then [UInt8.ofNat (48 + i)] else [UInt8.ofNat (48 + i / 10), UInt8.ofNat (48 + i % 10)]
theorem dec_dig2 {i : Nat} (h : i < 100) : Lib.decDigits i = dig2 i := by
  unfold dig2
  split
  · exact Lib.decDigits_one (by assumption)
  · exact Lib.decDigits_two (by assumption) h
set_option maxRecDepth 100000 in
theorem atoi_all : ∀ i : Fin 100, Lib.atoi (dig2 i) = some ((i : Nat) : Int) := by decide
set_option maxRecDepth 100000 in
theorem dig2_all : ∀ i : Fin 100, (dig2 i).all (fun b => decide (48 ≤ b.toNat) && decide (b.toNat ≤ 57)) = true := by decide
theorem atoi_dec {i : Nat} (h : i < 100) : Lib.atoi (Lib.decDigits i) = some (i : Int) := by rw [dec_dig2 h]; exact atoi_all ⟨i, h⟩
theorem dec_byte {i : Nat} (h : i < 100) {b : UInt8} (hb : b ∈ Lib.decDigits i) : 48 ≤ b.toNat ∧ b.toNat ≤ 57 := by
  rw [dec_dig2 h] at hb
  have := List.all_eq_true.1 (dig2_all ⟨i, h⟩) b hb
  simpa using this
theorem indexAny_skip (l r : List UInt8) (s : UInt8) (chars : List UInt8) (h : ∀ b ∈ l, chars.contains b = false) (hs : chars.contains s = true) : Lib.indexAny (l ++ s :: r) chars = (l.length : Int) := by
  induction l with
  | nil =>
    show Lib.indexAny (s :: r) chars = 0
    unfold Lib.indexAny
    rw [if_pos hs]
  | cons b l ih =>
    have h1 := ih fun x hx => h x (by simp [hx])
    show Lib.indexAny (b :: (l ++ s :: r)) chars = _
    unfold Lib.indexAny
    rw [if_neg (by rw [h b (by simp)]; simp), h1]
    have hne : ((l.length : Int) == -1) = false := by simp only [beq_eq_false_iff_ne, ne_eq]; omega
    rw [hne]
    simp
/-- Where the sign of a word's first visit stands. -/
theorem index_vis {c : Nat} (hc : c < 99) (x sg : UInt8) (hx : x = 79 ∨ x = 85) (hsg : sg = 43 ∨ sg = 45) (r : List UInt8) :
    Lib.indexAny (x :: (Lib.decDigits (c + 1) ++ sg :: r)) [43, 45] = 1 + ((Lib.decDigits (c + 1)).length : Int) := by
  have h := indexAny_skip (x :: Lib.decDigits (c + 1)) r sg [43, 45] (fun b hb => by
    rcases List.mem_cons.1 hb with e | hb
    · subst e; rcases hx with rfl | rfl <;> decide
    · have := dec_byte (by omega) hb
      have h43 : b ≠ 43 := fun e => by subst e; revert this; decide
      have h45 : b ≠ 45 := fun e => by subst e; revert this; decide
      simp [h43, h45]) (by rcases hsg with rfl | rfl <;> decide)
  rw [List.cons_append] at h
  rw [h, List.length_cons]
  omega
theorem vTxt_ascii (s : List Int) (v : Vis) (h : v.1.toNat + 1 < 100) {b : UInt8} (hb : b ∈ vTxt s v) : b.toNat < 128 := by
  unfold vTxt at hb
  rcases List.mem_cons.1 hb with e | hb
  · subst e; split <;> decide
  · rcases List.mem_append.1 hb with hb | hb
    · have := dec_byte h hb; omega
    · simp at hb; subst hb; split <;> decide
theorem lTxt_ascii (s : List Int) (l : List Vis) (h : ∀ v ∈ l, v.1.toNat + 1 < 100) {b : UInt8} (hb : b ∈ lTxt s l) : b.toNat < 128 := by
  obtain ⟨v, hv, hb⟩ := List.mem_flatMap.1 hb
  exact vTxt_ascii s v (h v hv) hb
theorem lTxt_cons (s : List Int) (v : Vis) (l : List Vis) : lTxt s (v :: l) = vTxt s v ++ lTxt s l := rfl

end Go.Proofs.YtdacjnmfmhkpiaaGreatDoor

/- A word of a code's text, as bytes. -/
namespace Go.Proofs.YtdacjnmfmhkpiaaGreatDoor

theorem loop_ne (bs : ByteArray) (n : Nat) : ∀ (i : Nat) (r : List UInt8), bs.size - i ≤ n → r ≠ [] → ByteArray.toList.loop bs i r ≠ [] := by
  induction n with
  | zero =>
    intro i r h hr
    unfold ByteArray.toList.loop
    rw [if_neg (by omega)]
    simpa using hr
  | succ n ih =>
    intro i r h hr
    unfold ByteArray.toList.loop
    split
    · exact ih _ _ (by omega) (by simp)
    · simpa using hr
theorem bytes_ne {bs : ByteArray} (h : 0 < bs.size) : bs.toList.isEmpty = false := by
  have : bs.toList ≠ [] := by
    unfold ByteArray.toList ByteArray.toList.loop
    rw [if_pos h]
    exact loop_ne bs bs.size _ _ (by omega) (by simp)
  simpa using this
/-- The bytes of a word that begins with a visit. -/
def wdB (x : UInt8) (d : List UInt8) (sg : UInt8) (r : List UInt8) : ByteArray := ⟨(x :: (d ++ sg :: r)).toArray⟩
theorem wdB_size (x : UInt8) (d : List UInt8) (sg : UInt8) (r : List UInt8) : (wdB x d sg r).size = 1 + d.length + 1 + r.length := by
  unfold wdB; simp [ByteArray.size]; omega
theorem wdB_zero (x : UInt8) (d : List UInt8) (sg : UInt8) (r : List UInt8) (h : 0 < (wdB x d sg r).size) : (wdB x d sg r)[0] = x := by
  unfold wdB; rfl
theorem wdB_sign (x : UInt8) (d : List UInt8) (sg : UInt8) (r : List UInt8) (E : Nat) (hE : E = 1 + d.length) (h : E < (wdB x d sg r).size) : (wdB x d sg r)[E] = sg := by
  subst hE
  show (x :: (d ++ sg :: r)).toArray[1 + d.length]'_ = sg
  simp [Nat.add_comm 1]
theorem wdB_digits (x : UInt8) (d : List UInt8) (sg : UInt8) (r : List UInt8) (E : Nat) (hE : E = 1 + d.length) : (wdB x d sg r).extract 1 E = ⟨d.toArray⟩ := by
  subst hE
  apply ByteArray.ext
  rw [ByteArray.data_extract]
  unfold wdB
  simp [List.extract_toArray]
theorem wdB_rest (x : UInt8) (d : List UInt8) (sg : UInt8) (r : List UInt8) (E : Nat) (hE : E = 1 + d.length) : (wdB x d sg r).extract (E + 1) (wdB x d sg r).size = ⟨r.toArray⟩ := by
  rw [wdB_size]
  subst hE
  apply ByteArray.ext
  rw [ByteArray.data_extract]
  unfold wdB
  have e : x :: (d ++ sg :: r) = (x :: (d ++ [sg])) ++ r := by simp
  rw [e]
  have hl : (x :: (d ++ [sg])).length = 1 + d.length + 1 := by simp; omega
  simp only [List.extract_toArray]
  rw [List.extract_eq_take_drop, ← hl, List.drop_left]
  simp

end Go.Proofs.YtdacjnmfmhkpiaaGreatDoor

/- Walk: the law's plain: a code as that of the reference. -/
namespace Go.Proofs.YtdacjnmfmhkpiaaGreatDoor
open Go.ChangeShapes Go.WideShapes Go.ChangeAt Go.RowKit

/-- The cells of a list of visits, one after another. -/
def vcells (l : List Vis) : List Value := l.flatMap fun v => [.int .i64 v.1, .bool v.2]
theorem vcells_len (l : List Vis) : (vcells l).length = l.length * 2 := by
  induction l with
  | nil => rfl
  | cons v l ih => unfold vcells at ih ⊢; rw [List.flatMap_cons, List.length_append, ih, List.length_cons]; simp; omega
theorem vcells_get (l : List Vis) (j : Nat) (h : j < l.length) : (vcells l)[j * 2]? = some (.int .i64 (l.getD j v0).1) ∧ (vcells l)[j * 2 + 1]? = some (.bool (l.getD j v0).2) := by
  induction l generalizing j with
  | nil => simp at h
  | cons v l ih =>
    have e : vcells (v :: l) = .int .i64 v.1 :: .bool v.2 :: vcells l := rfl
    rw [e]
    cases j with
    | zero => exact ⟨rfl, rfl⟩
    | succ j =>
      have := ih j (by simpa using h)
      rw [show (j + 1) * 2 = j * 2 + 1 + 1 by omega]
      simpa using this
theorem vcells_snoc (l : List Vis) (v : Vis) : vcells (l ++ [v]) = vcells l ++ [.int .i64 v.1, .bool v.2] := by unfold vcells; rw [List.flatMap_append]; rfl

/-- The slice 'slice A n _' reads as l; its block is of the call's own, of elements te. -/
def VEl (w : World) (B : Nat) (te : TypeId) (A : Option Addr) (n : Nat) (l : List Vis) : Prop :=
  RV w A n l ∧ ∀ b off, A = some ⟨b, off, none⟩ → B ≤ b ∧ ∃ cs fz, w.heap[b]? = some (.cells cs te fz)
theorem cell_heap {w w' : World} {b : Nat} (h : w'.heap[b]? = w.heap[b]?) (i : Nat) : w'.cell? ⟨b, i, none⟩ = w.cell? ⟨b, i, none⟩ := by simp [World.cell?, h]
theorem VEl.move {w w' : World} {B : Nat} {te : TypeId} {A : Option Addr} {n : Nat} {l : List Vis} (h : VEl w B te A n l) (hk : ∀ b, B ≤ b → (∃ cs fz, w.heap[b]? = some (.cells cs te fz)) → w'.heap[b]? = w.heap[b]?) : VEl w' B te A n l := by
  refine ⟨⟨h.1.1, fun hn => ?_⟩, fun b off e => ?_⟩
  · obtain ⟨b, off, e, hlt, hc⟩ := h.1.2 hn
    obtain ⟨h1, h2⟩ := h.2 b off e
    have h3 := hk b h1 h2
    refine ⟨b, off, e, ?_, fun j hj => ?_⟩
    · obtain ⟨cs, fz, h2⟩ := h2
      rw [h2] at h3
      exact (Array.getElem?_eq_some_iff.1 h3).1
    · rw [cell_heap h3, cell_heap h3]; exact hc j hj
  · obtain ⟨h1, cs, fz, h2⟩ := h.2 b off e
    exact ⟨h1, cs, fz, by rw [hk b h1 ⟨cs, fz, h2⟩]; exact h2⟩
theorem VEl.keep {w w' : World} {B : Nat} {te : TypeId} {A : Option Addr} {n : Nat} {l : List Vis} (h : VEl w B te A n l) (hb : Below w.heap.size w w') : VEl w' B te A n l :=
  h.move fun b _ hx => by obtain ⟨cs, fz, hx⟩ := hx; exact hb.block b (Array.getElem?_eq_some_iff.1 hx).1
/-- An own row of visits is such a slice. -/
theorem vel_of_own {w : World} {B Bi : Nat} {te : TypeId} {v : Value} {l : List Vis} (h : w.ownsRow Bi te 2 v l.length (vcells l)) (hB : B ≤ Bi) : ∃ A c, v = .slice A l.length c ∧ VEl w B te A l.length l := by
  rcases id h.2 with ⟨h1, h2⟩ | ⟨g, cap, cur, h1, hg, hh, _⟩
  · refine ⟨none, 0, by rw [h1, h2], ⟨rfl, fun hn => by omega⟩, fun b off e => by cases e⟩
  · subst h1
    refine ⟨_, cap, rfl, ⟨rfl, fun _ => ⟨g, 0, rfl, (Array.getElem?_eq_some_iff.1 hh).1, fun j hj => ?_⟩⟩, fun b off e => ?_⟩
    · have q := vcells_get l j hj
      rw [Nat.zero_add, World.ownsRow.cellAt h (j * 2) (by omega), World.ownsRow.cellAt h (j * 2 + 1) (by omega)]
      exact q
    · have e1 := Option.some.inj e
      injection e1 with e1 _ _
      subst e1
      exact ⟨by omega, cur, _, hh⟩

/-- An own row of such slices; they read as vss. -/
def VR (w : World) (B : Nat) (tr te : TypeId) (v : Value) (vals : List Value) (vss : List (List Vis)) : Prop :=
  ownRow w B tr v vals ∧ vals.length = vss.length ∧ ∀ i, i < vss.length → ∃ A n c, vals.getD i undef = .slice A n c ∧ VEl w B te A n (vss.getD i [])
theorem VR.rvv {w : World} {B : Nat} {tr te : TypeId} {A : Option Addr} {n c : Nat} {vals : List Value} {vss : List (List Vis)} (h : VR w B tr te (.slice A n c) vals vss) : RVV w A n vss := by
  obtain ⟨h1, h2, h3⟩ := h
  rcases id h1.2 with ⟨h4, h5⟩ | ⟨g, cap, cur, h4, hg, hh, _⟩
  · injection h4 with e1 e2 e3
    subst e1; subst e2
    exact ⟨by omega, fun hn => by omega⟩
  · injection h4 with e1 e2 e3
    subst e1; subst e2; subst e3
    refine ⟨h2.symm, fun hn => ⟨g, 0, rfl, (Array.getElem?_eq_some_iff.1 hh).1, fun j hj => ?_⟩⟩
    obtain ⟨A', n', c', h6, h7⟩ := h3 j (by omega)
    have h8 := World.ownsRow.cellAt (g := g) (cap := c) h1 j (by omega)
    refine ⟨A', n', c', ?_, h7.1⟩
    rw [Nat.zero_add, h8, List.getElem?_eq_getElem hj]
    have : vals.getD j undef = vals[j] := by simp [List.getD, hj]
    rw [← this, h6]
theorem VR.move {w w' : World} {B : Nat} {tr te : TypeId} {v : Value} {vals : List Value} {vss : List (List Vis)} (h : VR w B tr te v vals vss) (hk : ∀ b, B ≤ b → (∃ cs t fz, w.heap[b]? = some (.cells cs t fz)) → w'.heap[b]? = w.heap[b]?) : VR w' B tr te v vals vss := by
  obtain ⟨h1, h2, h3⟩ := h
  refine ⟨⟨h1.1, ?_⟩, h2, fun i hi => ?_⟩
  · rcases h1.2 with h4 | ⟨g, cap, cur, h4, hg, hh, hr⟩
    · exact .inl h4
    · exact .inr ⟨g, cap, cur, h4, hg, by rw [hk g hg ⟨_, _, _, hh⟩]; exact hh, hr⟩
  · obtain ⟨A, n, c, h4, h5⟩ := h3 i hi
    exact ⟨A, n, c, h4, h5.move fun b hb hx => hk b hb (by obtain ⟨cs, fz, hx⟩ := hx; exact ⟨cs, te, fz, hx⟩)⟩
theorem VR.keep {w w' : World} {B : Nat} {tr te : TypeId} {v : Value} {vals : List Value} {vss : List (List Vis)} (h : VR w B tr te v vals vss) (hb : Below w.heap.size w w') : VR w' B tr te v vals vss :=
  h.move fun b _ hx => by obtain ⟨cs, t, fz, hx⟩ := hx; exact hb.block b (Array.getElem?_eq_some_iff.1 hx).1
/-- A store below it. -/
theorem VR.set {w : World} {B : Nat} {tr te : TypeId} {v : Value} {vals : List Value} {vss : List (List Vis)} (h : VR w B tr te v vals vss) {p : Addr} (hp : p.block < B) (u : Value) : VR (w.setCell p u) B tr te v vals vss :=
  h.move fun b hb _ => Below.heap_setCell _ _ _ _ (by omega)
/-- One slice more. -/
theorem VR.snoc {w2 w3 : World} {o : Obj} {B : Nat} {tr te : TypeId} {v v3 : Value} {vals : List Value} {vss : List (List Vis)} {A : Option Addr} {n c : Nat} {l : List Vis} (h : VR w2 B tr te v vals vss) (hv : VEl w2 B te A n l)
    (hrow : ownRow w3 B tr v3 (vals ++ [.slice A n c])) (hg : (w2.alloc o).grownBy w3 v.ownBlock) (hte : te ≠ tr) : VR w3 B tr te v3 (vals ++ [.slice A n c]) (vss ++ [l]) := by
  obtain ⟨h1, h2, h3⟩ := h
  have hk : ∀ b, B ≤ b → (∃ cs fz, w2.heap[b]? = some (.cells cs te fz)) → w3.heap[b]? = w2.heap[b]? := fun b _ hx => by
    obtain ⟨cs, fz, hx⟩ := hx
    have hlt : b < w2.heap.size := (Array.getElem?_eq_some_iff.1 hx).1
    rw [hg.block b (by simp; omega) (fun e => by
      obtain ⟨cur, h4⟩ := h1.type e.symm
      rw [hx] at h4
      injection h4 with h4
      injection h4 with _ h4 _
      exact hte h4)]
    exact Below.heap_alloc _ _ _ hlt
  refine ⟨hrow, by simp [h2], fun i hi => ?_⟩
  rw [List.length_append] at hi
  by_cases e : i < vss.length
  · obtain ⟨A', n', c', h4, h5⟩ := h3 i e
    refine ⟨A', n', c', ?_, ?_⟩
    · rw [← h4]; simp [List.getD, List.getElem?_append_left (show i < vals.length by omega)]
    · have : (vss ++ [l]).getD i [] = vss.getD i [] := by simp [List.getD, List.getElem?_append_left e]
      rw [this]
      exact h5.move hk
  · simp at hi
    obtain rfl : i = vss.length := by omega
    refine ⟨A, n, c, ?_, ?_⟩
    · rw [← h2]; simp [List.getD]
    · have : (vss ++ [l]).getD vss.length [] = l := by simp [List.getD]
      rw [this]
      exact hv.move hk

end Go.Proofs.YtdacjnmfmhkpiaaGreatDoor

/- math/bits.Mul: the contract of the library's shelf, laid at this seat's numbers. -/
namespace Go.Proofs.YtdacjnmfmhkpiaaGreatDoor
open Go.Shelf Go.RowKit

def ren212 : Go.Shelf.Ren := ⟨fun | 212 => 83 | 263 => 98 | 264 => 99 | n => n, fun | 46 => 114 | 51 => 129 | 146 => 130 | 53 => 132 | 148 => 133 | n => n, fun | n => n⟩
theorem lays212 : Go.Proofs.Lays.n212 Tryz.prog ren212 := {
  mixed := by kernel_rfl
  f212 := Tryz.func83.trans (congrArg some (by kernel_rfl))
  f263 := Tryz.func98.trans (congrArg some (by kernel_rfl))
  f264 := Tryz.func99.trans (congrArg some (by kernel_rfl))
  t46 := Tryz.underlying114
  a46 := Tryz.isAgg114
  z46 := Tryz.sizeOf114
  v46 := Tryz.zeroValue114
  t51 := Tryz.underlying129
  a51 := Tryz.isAgg129
  z51 := Tryz.sizeOf129
  v51 := Tryz.zeroValue129
  t53 := Tryz.underlying132
  a53 := Tryz.isAgg132
  z53 := Tryz.sizeOf132
  v53 := Tryz.zeroValue132
  t146 := Tryz.underlying130
  a146 := Tryz.isAgg130
  z146 := Tryz.sizeOf130
  v146 := Tryz.zeroValue130
  t148 := Tryz.underlying133
  a148 := Tryz.isAgg133
  z148 := Tryz.sizeOf133
  v148 := Tryz.zeroValue133 }
theorem mul_one (n : Nat) (hn : n < 18446744073709551616) (w : World) :
    Calls Tryz.prog 83 #[.int .u64 1, .int .u64 (n : Nat)] w fun e w' => e = .returned (.tuple #[.int .u64 0, .int .u64 (n : Nat)]) ∧ w = w' := by
  have h := Any.bits_Mul lays212 1 n (by omega) hn w
  have e1 : 1 * n / 18446744073709551616 = 0 := by omega
  have e2 : 1 * n % 18446744073709551616 = n := by omega
  rw [e1, e2] at h
  exact h.mono fun e w' ⟨h1, h2⟩ => ⟨h1, h2.symm⟩

end Go.Proofs.YtdacjnmfmhkpiaaGreatDoor
