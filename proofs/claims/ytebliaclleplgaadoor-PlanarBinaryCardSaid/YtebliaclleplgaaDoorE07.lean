import Derived.Test.YtebliaclleplgaaDoorShelf
import Derived.Test.YtebliaclleplgaaDoorE02
import Derived.Lib.FrozenHead2
import Derived.Lib.OthersKept
import Derived.Test.YtebliaclleplgaaDoorE05
import Derived.Test.YtebliaclleplgaaDoorE01
import Derived.Laws.BitsAllLaws
import Derived.Test.YtebliaclleplgaaDoorE03
import Derived.ProofKit
import Derived.Lib.SmallJoins
import Derived.Test.YtebliaclleplgaaDoorE04
import Derived.Lib.AppendZerosOnto
import Derived.Laws.AppendOwn
/- strings.Builder at this dump: copyCheck, WriteByte, WriteString (the shelf's do not lie: this library's copyCheck has another body). -/
namespace Go.Proofs.YtebliaclleplgaaDoor
open Go.RowKit

theorem Tryd.sizeBuilder : (Tryd.prog.info? 52).map (·.size) = some 2 := by kernel_rfl
theorem Tryd.liesBuilder : liesAt Tryd.prog Tryd.prog.depth 52 (2 / Tryd.prog.cellsOf 52) 0 52 1 = true := by kernel_rfl
theorem Tryd.infoByteP : (Tryd.prog.info? 5).map (fun i => (i.zero, i.size, i.bytes)) = some (some (.int .u8 0), 1, 1) := by kernel_rfl

set_option maxHeartbeats 1000000 in
set_option maxRecDepth 100000 in
theorem copyCheck_used (b : Nat) (w : World) (h0 : w.cell? ⟨b, 0, none⟩ = some (.pointer (some ⟨b, 0, none⟩))) :
    Calls Tryd.prog 58 #[.pointer (some ⟨b, 0, none⟩)] w fun e w' => e = .returned (.tuple #[]) ∧ w' = w := by
  obtain ⟨j, hj, _⟩ := Option.map_eq_some_iff.1 Tryd.sizeBuilder
  go_enter Tryd.func58, Tryd.ntmps58
  go_wp2
  rw [Lib.run_neq_ptr_same w _ Tryd.underlying50 hj]
  go_wp2
  go_end0
  exact ⟨rfl, rfl⟩

set_option maxHeartbeats 1000000 in
set_option maxRecDepth 100000 in
theorem copyCheck_fresh (b : Nat) (w : World) (h0 : w.cell? ⟨b, 0, none⟩ = some (.pointer none)) (hsh : w.shape? b = some (52, 2)) (hfz : w.frozen? ⟨b, 0, none⟩ = false) :
    Calls Tryd.prog 58 #[.pointer (some ⟨b, 0, none⟩)] w fun e w' => e = .returned (.tuple #[]) ∧ w' = w.setCell ⟨b, 0, none⟩ (.pointer (some ⟨b, 0, none⟩)) := by
  obtain ⟨j, hj, hjs⟩ := Option.map_eq_some_iff.1 Tryd.sizeBuilder
  go_enter Tryd.func58, Tryd.ntmps58
  go_wp2
  rw [Lib.run_to_unsafe w ⟨b, 0, none⟩ Tryd.underlying50 Tryd.underlying102 hj (by rw [hjs]; decide) hsh (Nat.zero_lt_succ 1)]
  simp only [Result.andThen]
  rw [Oper.upon_value]
  go_wp2
  rw [run_callFunc_extern Tryd.func76 (by kernel_rfl) (by kernel_rfl) (by kernel_rfl) (e := Extern.AbiNoEscape.same) (by kernel_rfl)]
  rw [Lib.run_noEscape]
  simp only [Result.andThen]
  rw [Oper.upon_value]
  go_wp2
  rw [Lib.run_from_unsafe w ⟨b, 0, none⟩ Tryd.underlying102 Tryd.underlying50 hj hsh Tryd.liesBuilder]
  simp only [Result.andThen]
  rw [Oper.upon_value]
  go_wp2
  go_end0
  exact ⟨rfl, rfl⟩

/-- The builder in block b holds the bytes l; what the call owns lies in blocks from B on. -/
abbrev Bld (w : World) (B b : Nat) (l : List UInt8) : Prop := Lib.IsBuilderF 52 5 B b (Lib.byteCells l) w
abbrev Kept (b : Nat) (w w' : World) : Prop := Lib.OthersKept 5 (some b) w w'

theorem copyCheck_any (B b : Nat) (bs : List Value) (w : World) (h : Lib.IsBuilderF 52 5 B b bs w) :
    Calls Tryd.prog 58 #[.pointer (some ⟨b, 0, none⟩)] w fun e w' => e = .returned (.tuple #[]) ∧ Lib.BuilderAtF 52 5 B b (.pointer (some ⟨b, 0, none⟩)) bs w' ∧ Below B w w' ∧ Kept b w w' := by
  rcases h with h | h
  · refine (copyCheck_fresh b w h.cell0 h.shape h.frozen0).mono ?_
    rintro e w' ⟨rfl, rfl⟩
    exact ⟨rfl, h.used _, (Below.refl B w).setCell (p := ⟨b, 0, none⟩) h.1 _, (Lib.OthersKept.refl _ _ w).setCell ⟨b, 0, none⟩ rfl _⟩
  · refine (copyCheck_used b w h.cell0).mono ?_
    rintro e w' ⟨rfl, rfl⟩
    exact ⟨rfl, h, Below.refl B _, Lib.OthersKept.refl _ _ _⟩

theorem heap_lt {w : World} {b : Nat} {o : Obj} (h : w.heap[b]? = some o) : b < w.heap.size := (Array.getElem?_eq_some_iff.1 h).1

set_option maxHeartbeats 2000000 in
set_option maxRecDepth 100000 in
theorem writeByte_any (B b : Nat) (l : List UInt8) (x : UInt8) (c : Int) (hc : c = (x.toNat : Int)) (w : World) (h : Bld w B b l) (hlen : l.length ≤ 1000000000) (hBw : B ≤ w.heap.size) :
    Calls Tryd.prog 28 #[.pointer (some ⟨b, 0, none⟩), .int .u8 c] w fun e w' => e = .returned .nilIface ∧ Bld w' B b (l ++ [x]) ∧ Below B w w' ∧ Kept b w w' := by
  obtain ⟨i0, hi, hz0, hz1, hz2⟩ := info_parts Tryd.infoByteP
  have hll : (Lib.byteCells l).length = l.length := Lib.byteCells_length l
  have hbc : Lib.byteCells (l ++ [x]) = Lib.byteCells l ++ [.int .u8 c] := by rw [Lib.byteCells_append, hc]; rfl
  have HBC := Lib.hid hbc
  have HLL := Lib.hid hll
  clear hbc hc hll
  go_enter Tryd.func28, Tryd.ntmps28
  go_wp2_with (go_at_call 58; refine (copyCheck_any B b _ _ h).mono ?_)
  rintro e w1 ⟨rfl, h1, hb1, hk1⟩
  obtain ⟨hB, v, hbk, hown, hne⟩ := h1
  have c0 : w1.cell? ⟨b, 0, none⟩ = some (.pointer (some ⟨b, 0, none⟩)) := by rw [Lib.cell_of_heap hbk]; rfl
  have c1 : w1.cell? ⟨b, 1, none⟩ = some v := by rw [Lib.cell_of_heap hbk]; rfl
  have hs1 := hb1.size
  go_wp2_with (at_builtin; refine wpList_append_ownF _ rfl _ _ 39 rfl B 5 i0 (.int .u8 0) 1 1 Tryd.underlying39 hi hz0 hz1 hz2 rfl (by decide) _ _ _ rfl (hown.alloc _) ⟨w1.heap.size, 0, none⟩ 1 1 [.int .u8 c] rfl rfl ?c1 ?c2 ?c3 ?c4 ?c5 ?_)
  case c1 =>
    intro j u hj
    match j, hj with
    | 0, hj => simp at hj; subst hj; simp [Addr.add]
  case c2 => intro u hu; simp at hu; subst hu; rfl
  case c3 => have := HLL.out; unfold maxLen; omega
  case c4 => have := HLL.out; omega
  case c5 => simp; omega
  intro v' w2 hown' hgrow _
  have hlt := heap_lt hbk
  have hb2 : w2.heap[b]? = some (.cells #[.pointer (some ⟨b, 0, none⟩), v] 52 (0, 0)) := by
    rw [hgrow.block b (by simp; omega) (fun e => hne e.symm), Lib.alloc_old w1 _ b hlt]
    exact hbk
  have d0 : w2.cell? ⟨b, 0, none⟩ = some (.pointer (some ⟨b, 0, none⟩)) := by rw [Lib.cell_of_heap hb2]; rfl
  have d1 : w2.cell? ⟨b, 1, none⟩ = some v := by rw [Lib.cell_of_heap hb2]; rfl
  have f1 : w2.frozen? ⟨b, 1, none⟩ = false := Lib.frozen_of_heap hb2 1
  obtain ⟨g, cap, rfl⟩ : ∃ g cap, v' = .slice (some ⟨g, 0, none⟩) ((Lib.byteCells l).length + 1) cap := by
    rcases hown'.2 with ⟨_, h0⟩ | ⟨g, cap, cur, fz, hv, _⟩
    · omega
    · exact ⟨g, cap, hv⟩
  go_wp2
  go_ret
  refine ⟨rfl, .inr ?_, ?_, ((hk1.alloc _).grown hgrow (Lib.ownsRowF_kind (hown.alloc _))).setCell ⟨b, 1, none⟩ rfl _⟩
  · rw [HBC.out]
    exact Lib.BuilderAtF.put (T := 52) (e := 5) hB hb2 (bs' := Lib.byteCells l ++ [.int .u8 c]) (by simpa using hown') (by decide)
  · exact ((hb1.alloc (by omega) _).grown hgrow (by simp; omega) (fun k hk => (hown.lt k hk).1)).setCell (p := ⟨b, 1, none⟩) hB _

set_option maxHeartbeats 2000000 in
set_option maxRecDepth 100000 in
theorem writeString_any (B b : Nat) (l m : List UInt8) (w : World) (h : Bld w B b l) (hlen : l.length ≤ 1000000000) (hlm : m.length ≤ 1000000000) (hBw : B ≤ w.heap.size) :
    Calls Tryd.prog 26 #[.pointer (some ⟨b, 0, none⟩), .string ⟨m.toArray⟩] w fun e w' => (∃ k : Nat, e = .returned (.tuple #[.int .i64 k, .nilIface])) ∧ Bld w' B b (l ++ m) ∧ Below B w w' ∧ Kept b w w' := by
  obtain ⟨i0, hi, hz0, hz1, hz2⟩ := info_parts Tryd.infoByteP
  have hll : (Lib.byteCells l).length = l.length := Lib.byteCells_length l
  have hbc : Lib.byteCells (l ++ m) = Lib.byteCells l ++ Lib.strCells ⟨m.toArray⟩ := Lib.byteCells_append l m
  have hsz : (ByteArray.mk m.toArray).size = m.length := by simp [ByteArray.size]
  have HBC := Lib.hid hbc
  obtain ⟨s, hs⟩ : ∃ s : ByteArray, s = ⟨m.toArray⟩ := ⟨_, rfl⟩
  rw [← hs] at hsz HBC ⊢
  have HLL := Lib.hid hll
  have HSZ := Lib.hid hsz
  clear hbc hs hll hsz
  go_enter Tryd.func26, Tryd.ntmps26
  go_wp2_with (go_at_call 58; refine (copyCheck_any B b _ _ h).mono ?_)
  rintro e w1 ⟨rfl, h1, hb1, hk1⟩
  obtain ⟨hB, v, hbk, hown, hne⟩ := h1
  have c0 : w1.cell? ⟨b, 0, none⟩ = some (.pointer (some ⟨b, 0, none⟩)) := by rw [Lib.cell_of_heap hbk]; rfl
  have c1 : w1.cell? ⟨b, 1, none⟩ = some v := by rw [Lib.cell_of_heap hbk]; rfl
  have hs1 := hb1.size
  go_wp2_with (at_builtin; refine Lib.wpList_append_own_stringF _ rfl _ _ 39 9 rfl B 5 i0 Tryd.underlying39 Tryd.underlying9 hi hz0 hz1 hz2 _ _ _ rfl hown s rfl ?c3 ?c4 ?c5 ?_)
  case c3 => have := HLL.out; have := HSZ.out; unfold maxLen; omega
  case c4 => have := HLL.out; have := HSZ.out; omega
  case c5 => omega
  intro v' w2 hown' hgrow _
  have hlt := heap_lt hbk
  have hb2 : w2.heap[b]? = some (.cells #[.pointer (some ⟨b, 0, none⟩), v] 52 (0, 0)) := by
    rw [hgrow.block b hlt (fun e => hne e.symm)]
    exact hbk
  have d0 : w2.cell? ⟨b, 0, none⟩ = some (.pointer (some ⟨b, 0, none⟩)) := by rw [Lib.cell_of_heap hb2]; rfl
  have d1 : w2.cell? ⟨b, 1, none⟩ = some v := by rw [Lib.cell_of_heap hb2]; rfl
  have f1 : w2.frozen? ⟨b, 1, none⟩ = false := Lib.frozen_of_heap hb2 1
  obtain ⟨ao, n', cap, rfl⟩ : ∃ ao n' cap, v' = .slice ao n' cap := by
    rcases hown'.2 with ⟨hv, _⟩ | ⟨g, cap, cur, fz, hv, _⟩
    · exact ⟨_, _, _, hv⟩
    · exact ⟨_, _, _, hv⟩
  go_wp2
  go_ret2
  refine ⟨⟨s.size, rfl⟩, .inr ?_, ?_, (hk1.grown hgrow (Lib.ownsRowF_kind hown)).setCell ⟨b, 1, none⟩ rfl _⟩
  · rw [HBC.out]
    exact Lib.BuilderAtF.put (T := 52) (e := 5) hB hb2 (bs' := Lib.byteCells l ++ Lib.strCells s) (by simpa [Lib.strCells_length] using hown') (by decide)
  · exact (hb1.grown hgrow (by omega) (fun k hk => (hown.lt k hk).1)).setCell (p := ⟨b, 1, none⟩) hB _

end Go.Proofs.YtebliaclleplgaaDoor

/- Walks: isOut, bytesOfSigns, bitsOf. -/
namespace Go.Proofs.YtebliaclleplgaaDoor
open Go.RowKit

set_option maxHeartbeats 800000 in
theorem isOut_any (A : Option Addr) (ns cs : Nat) (signs : List Int) (h : Nat) (w : World) (hs : RI w A ns signs) (hh : h / 4 < ns) (hns : ns ≤ 1000000) :
    Calls Tryd.prog 51 #[.slice A ns cs, .int .i64 h] w fun e w' => e = .returned (.bool (outB signs h)) ∧ w = w' := by
  obtain ⟨b, off, rfl, hb, hc⟩ := hs.2 (by omega)
  have hcell : w.cell? ⟨b, off + h / 4, none⟩ = some (.int .i64 (signs.getD (h / 4) 0)) := hc _ hh
  generalize hx : signs.getD (h / 4) 0 = x at hcell
  clear hs hc
  rcases mod4_cases h with h4 | h4 | h4 | h4
  · have h4' : (h : Int) % 4 = 0 := by omega
    have e : outB signs h = false := by simp [outB, h4]
    rw [e]; clear e h4 hx
    go_enter Tryd.func51, Tryd.ntmps51
    go_wp2
    go_ret
    exact ⟨rfl, rfl⟩
  · have h4' : (h : Int) % 4 = 1 := by omega
    have e : outB signs h = (x == 1) := by simp only [outB, h4, hx]; rfl
    rw [e]; clear e h4 hx
    go_enter Tryd.func51, Tryd.ntmps51
    go_wp2
    go_ret
    exact ⟨rfl, rfl⟩
  · have h4' : (h : Int) % 4 = 2 := by omega
    have e : outB signs h = true := by simp [outB, h4]
    rw [e]; clear e h4 hx
    go_enter Tryd.func51, Tryd.ntmps51
    go_wp2
    go_ret
    exact ⟨rfl, rfl⟩
  · have h4' : (h : Int) % 4 = 3 := by omega
    have e : outB signs h = (x == -1) := by simp only [outB, h4, hx]; rfl
    rw [e]; clear e h4 hx
    go_enter Tryd.func51, Tryd.ntmps51
    go_wp2
    go_ret
    exact ⟨rfl, rfl⟩

theorem bytesOf_any (n : Nat) (hn : n ≤ 1000) (w : World) : Calls Tryd.prog 52 #[.int .i64 (n : Nat)] w fun e w' => e = .returned (.int .i64 ((n + 7) / 8 : Nat)) ∧ w = w' := by
  have h0 : (0 : Int) ≤ (n : Int) := Int.natCast_nonneg _
  have h1 : (n : Int) ≤ 1000 := by omega
  obtain ⟨q, hq⟩ : ∃ q, (n + 7) / 8 = q := ⟨_, rfl⟩
  have h2 : IntKind.i64.wrap ((n : Int) + 7) = (n : Int) + 7 := IntWalk.i64_in _ (by omega)
  have h3 : ((n : Int) + 7) / 8 = (q : Int) := by omega
  rw [hq]
  clear hq
  go_enter Tryd.func52, Tryd.ntmps52
  go_wp2
  go_ret
  exact ⟨ret_int (by omega), rfl⟩
abbrev uv (L : Nat → Nat) : Nat → Value := fun i => .int .u8 (L i : Nat)
theorem Arr.setu {w : World} {g n : Nat} {t : TypeId} {L : Nat → Nat} (h : Arr w g t n (uv L)) (j v : Nat) : Arr (w.setCell ⟨g, j, none⟩ (.int .u8 (v : Nat))) g t n (uv (upd L j v)) :=
  (h.set j _).congr fun i _ => by
    unfold upd uv
    by_cases e : i = j <;> simp [e]

set_option maxHeartbeats 3200000 in
set_option maxRecDepth 100000 in
theorem bitsOf_any (A : Option Addr) (n c : Nat) (s : List Int) (w : World) (hs : RI w A n s) (hn : n ≤ 64) :
    Calls Tryd.prog 50 #[.slice A n c] w fun e w' => e = .returned (.slice (some ⟨w.heap.size, 0, none⟩) ((n + 7) / 8) ((n + 7) / 8)) ∧ Arr w' w.heap.size 5 ((n + 7) / 8) (uv (btK s n)) ∧ Below w.heap.size w w' := by
  obtain ⟨nb, hnb⟩ : ∃ nb, (n + 7) / 8 = nb := ⟨_, rfl⟩
  have CB := fun W => Lib.hid (bytesOf_any n (by omega) W)
  simp only [hnb] at CB ⊢
  have hmk := fun W => make_one (P := Tryd.prog) Tryd.underlying39 Tryd.infoByteP rfl nb (by omega) (by omega) W
  have hb0 := below_alloc w (.cells (cellsN nb fun _ => .int .u8 0) 5)
  have HA0 : Hid (Arr (w.alloc (.cells (cellsN nb fun _ => .int .u8 0) 5)) w.heap.size 5 nb (uv (btK s 0))) := Lib.hid ((Arr.new w nb 5 fun _ => .int .u8 0).congr fun _ _ => rfl)
  have HS := Lib.hid hs
  have HNB := Lib.hid hnb
  clear hs hnb
  go_enter Tryd.func50, Tryd.ntmps50
  go_wp2_with ((go_at_call 52; ((with_reducible refine (CB _).out.mono ?_); rintro e w1 ⟨rfl, rfl⟩)))
  generalize w.alloc (.cells (cellsN nb fun _ => .int .u8 0) 5) = wA at *
  go_loopw [4, 5, 12] (fun _ _ i wr => ∃ k : Nat, k ≤ n ∧ i = .int .i64 k ∧ Below w.heap.size w wr ∧ Arr wr w.heap.size 5 nb (uv (btK s k))) (fun _ _ i _ => n - (intOf i).toNat)
  case atStart => exact ⟨0, by omega, rfl, hb0, HA0.out⟩
  case round =>
    obtain ⟨k, hk, rfl, hbr, har⟩ := hrel
    have hk0 : (0 : Int) ≤ (k : Int) := Int.natCast_nonneg _
    by_cases hlt : k < n
    · obtain ⟨b, o, rfl, hb, hc⟩ := HS.out.2 (by omega)
      have hcell := (hbr.cell (p := ⟨b, o + k, none⟩) hb).trans (hc k hlt)
      have hk1 : (k : Int) < (n : Int) := by omega
      have hstep : btK s (k + 1) = if s.getD k 0 = 1 then upd (btK s k) (k / 8) (btK s k (k / 8) + 2 ^ (k % 8)) else btK s k := rfl
      by_cases h1 : s.getD k 0 = 1
      · rw [if_pos h1] at hstep
        rw [h1] at hcell
        have HST := Lib.hid hstep
        obtain ⟨q, hq⟩ : ∃ q, k / 8 = q := ⟨_, rfl⟩
        obtain ⟨r, hr⟩ : ∃ r, k % 8 = r := ⟨_, rfl⟩
        have hor := btK_or s k
        have hq8 : q < nb := by have := HNB.out; omega
        have hr8 : r < 8 := by omega
        have hx := (btK_inv s k).2.2 q
        rw [hq, hr] at hor HST
        have c1 := har.cell q hq8
        have f1 := har.frozen q
        obtain ⟨x, hxx⟩ : ∃ x, btK s k q = x := ⟨_, rfl⟩
        have hp : 2 ^ r ≤ 128 := Nat.le_trans (Nat.pow_le_pow_right (by decide) (by omega : r ≤ 7)) (by decide)
        obtain ⟨y, hy⟩ : ∃ y, 2 ^ r = y := ⟨_, rfl⟩
        have hbor := u8_or_nat x y (by omega) (by omega)
        rw [hxx, hy] at hor
        rw [hor] at hbor
        rw [hxx, hy] at HST
        have HAR := Lib.hid har
        have q0 : (0 : Int) ≤ (q : Int) := Int.natCast_nonneg _
        have q1 : (q : Int) < (nb : Int) := by omega
        have e1 : (k : Int) / 8 = (q : Int) := by omega
        have e2 : (k : Int) % 8 = (r : Int) := by omega
        have r0 : (0 : Int) ≤ (r : Int) := Int.natCast_nonneg _
        have r1 : (r : Int) < 8 := by omega
        have c2 : wr.cell? ⟨w.heap.size, q, none⟩ = some (.int .u8 (x : Nat)) := by rw [c1]; show some (Value.int .u8 ((btK s k q : Nat) : Int)) = _; rw [hxx]
        have e3 : ((2 : Int) ^ r) = (y : Int) := by rw [← hy]; norm_cast
        have e4 : IntKind.u8.wrap (y : Int) = (y : Int) := by rw [IntKind.wrap_u8']; omega
        clear hc har hq hr hor hx c1 hxx hstep h1
        go_upto_region 6 with fail
        have HA5 : Hid (Arr (wr.setCell ⟨w.heap.size, q, none⟩ (.int .u8 ((x : Int) + (y : Int)))).drew w.heap.size 5 nb (uv (btK s (k + 1)))) := Lib.hid (by
          rw [HST.out, show (x : Int) + (y : Int) = ((x + y : Nat) : Int) by omega]
          exact (HAR.out.setu q (x + y)).drew)
        have HB5 : Hid (Below w.heap.size w (wr.setCell ⟨w.heap.size, q, none⟩ (.int .u8 ((x : Int) + (y : Int)))).drew) := Lib.hid (below_set hbr (Nat.le_refl _) _).drew
        go_region
        generalize (wr.setCell ⟨w.heap.size, q, none⟩ (.int .u8 ((x : Int) + (y : Int)))).drew = w5 at *
        go_wp2
        go_roundw
        case rel => exact ⟨k + 1, by omega, by go_num, HB5.out, HA5.out⟩
        case measure => simp [intOf]; omega
      · rw [if_neg h1] at hstep
        have HST := Lib.hid hstep
        have HAR := Lib.hid har
        have h1' : (s.getD k 0 == 1) = false := by simpa using h1
        obtain ⟨sg, hsg⟩ : ∃ sg, s.getD k 0 = sg := ⟨_, rfl⟩
        rw [hsg] at hcell h1'
        clear hc har hstep h1 hsg
        go_wp2
        go_roundw
        case rel => exact ⟨k + 1, by omega, by go_num, hbr, by rw [HST.out]; exact HAR.out⟩
        case measure => simp [intOf]; omega
    · obtain rfl : n = k := by omega
      have HAR := Lib.hid har
      clear har
      go_wp2
      go_ret
      exact ⟨rfl, HAR.out, hbr⟩

end Go.Proofs.YtebliaclleplgaaDoor

/- Opening a diagram that comes in, and shutting a law's call. -/
namespace Go.Proofs.YtebliaclleplgaaDoor
open Go.ChangeShapes Go.WideShapes Go.ChangeAt Go.RowKit Go.Joins

theorem Tryd.own : ownKnob Tryd.prog.godebug = none := by kernel_rfl
theorem Tryd.laidOut : laidOutB Tryd.prog = true := by kernel_rfl
theorem Tryd.cellsI : Tryd.prog.cellsOf 3 = 1 := by kernel_rfl
theorem Tryd.cellsD : Tryd.prog.cellsOf 24 = 3 := by kernel_rfl

def inI (x : Int) : Prop := -9223372036854775808 ≤ x ∧ x ≤ 9223372036854775807
theorem inI_of_wf {x : Int} (h : (Lit.int .i64 x).wf = true) : inI x := by
  have h1 : IntKind.i64.min = -9223372036854775808 := rfl
  have h2 : IntKind.i64.max = 9223372036854775807 := rfl
  simp only [Lit.wf, Bool.and_eq_true, decide_eq_true_eq] at h
  unfold inI; omega

section
variable {H : Type} {enc : TypeId × Value → H} {W : World}

set_option maxRecDepth 100000 in
/-- A slice of ints that comes in reads as a list. -/
theorem open_ri {fuel : Nat} {v : Value} {x : DataW H × List MemPlace} (h : DataW.trod enc Tryd.prog W 0 (fun _ => true) true fuel 22 [v] = some x) :
    ∃ A n c xs, v = .slice A n c ∧ RI W A n xs ∧ n ≤ 9223372036854775807 ∧ ∀ y ∈ xs, inI y := by
  rcases open_ints Tryd.underlying22 Tryd.underlying3 Tryd.cellsI h with ⟨hcs, _⟩ | ⟨a, len, cap, zs, hcs, _, hl, hm, hz, _, hcell, hwf⟩
  · injection hcs with hcs _
    exact ⟨none, 0, 0, [], hcs, RI.nil _ _, by omega, fun y hy => by cases hy⟩
  · injection hcs with hcs _
    simp only [if_true] at hz
    refine ⟨some a, len, cap, zs.take len, hcs, ⟨by rw [List.length_take]; omega, fun hn => ?_⟩, by unfold maxLen at hm; omega, fun y hy => inI_of_wf (hwf y (List.mem_of_mem_take hy))⟩
    have h0 := hcell 0 (by omega)
    obtain ⟨b, off, spot⟩ := a
    have hspot : spot = none := by simpa [Addr.add] using World.cell?_spot h0
    subst hspot
    refine ⟨b, off, rfl, ?_, fun j hj => ?_⟩
    · have := World.block_lt_of_cell? W _ h0
      simpa [Addr.add] using this
    · have := hcell j (by omega)
      rw [add_plain] at this
      rw [this]
      simp [List.getD, hj]

set_option maxRecDepth 100000 in
/-- A diagram that comes in. -/
theorem open_diag {base : Nat} {v : Value} {d : DataW H} {p : List MemPlace} (hv : Value.okWide Tryd.prog W .any base 24 v) (h : DataW.Trod enc Tryd.prog W 0 (fun _ => true) true 24 v d p) :
    ∃ A ns cs B nm cm lp signs mate, v = dval A ns cs B nm cm lp ∧ RI W A ns signs ∧ RI W B nm mate ∧ ns ≤ 9223372036854775807 ∧ nm ≤ 9223372036854775807 ∧ (∀ y ∈ signs, inI y) ∧ (∀ y ∈ mate, inI y) ∧ inI lp := by
  obtain ⟨c0, c1, c2, y0, y1, y2, m, rfl, _, _, hy0, hy1, hy2⟩ := open_agg3 Tryd.underlying24 (by kernel_rfl) Tryd.cellsD hv h
  obtain ⟨A, ns, cs, signs, rfl, r1, l1, q1⟩ := open_ri hy0
  obtain ⟨B, nm, cm, mate, rfl, r2, l2, q2⟩ := open_ri hy1
  obtain ⟨x, e0, _, wx⟩ := DataW.trod_int Tryd.underlying3 hy2
  simp at e0
  subst e0
  exact ⟨A, ns, cs, B, nm, cm, x, signs, mate, rfl, r1, r2, l1, l2, q1, q2, inI_of_wf wx⟩

set_option maxRecDepth 100000 in
theorem trodAll_keep {W' : World} (hb : Below W.heap.size W W') : ∀ {ts : List TypeId} {vs : List Value} {ds : List (DataW H)} {ps : List MemPlace}, (∀ t ∈ ts, Tryd.prog.readableRec t = true ∧ t < Tryd.prog.types.size) →
    (∀ x ∈ ps, x.block < W.heap.size) → DataW.TrodAll enc Tryd.prog W 0 (fun _ => true) true ts vs ds ps → DataW.TrodAll enc Tryd.prog W' 0 (fun b => decide (b < W.heap.size)) true ts vs ds ps
  | [], [], [], _, _, _, h => h
  | t :: ts, v :: vs, d :: ds, ps, hr, hlt, h => by
    obtain ⟨p, q, h1, h2, rfl⟩ := h
    obtain ⟨r1, r2⟩ := hr t (by simp)
    exact ⟨p, q, Below.trod Tryd.laidOut r1 r2 h1 hb (fun x hx => hlt x (by simp [hx])), trodAll_keep hb (fun t ht => hr t (by simp [ht])) (fun x hx => hlt x (by simp [hx])) h2, rfl⟩
  | [], _ :: _, _, _, _, _, h => h.elim
  | [], [], _ :: _, _, _, _, h => h.elim
  | _ :: _, [], _, _, _, _, h => h.elim
  | _ :: _, _ :: _, [], _, _, _, h => h.elim

set_option maxRecDepth 100000 in
/-- A law that answers true and leaves all below as it was meets its specification. -/
theorem law_post {f : Func} {s : ChangeSpec} {args : Array Value} {ds gs : List (DataW H)} {before : List MemPlace} {W' : World}
    (hres : f.resultTypes = #[4]) (hvars : s.vars = []) (hpar : ∀ t ∈ f.params.toList, Tryd.prog.readableRec t = true ∧ t < Tryd.prog.types.size)
    (hspec : (s.fn H (ds ++ gs)).results = [.lit (.bool true)] ∧ (s.fn H (ds ++ gs)).args = ds ∧ (s.fn H (ds ++ gs)).vars = [])
    (hW : DataW.Whole enc Tryd.prog f.params.toList s.vars false W args.toList ds gs before) (hb : Below W.heap.size W W') :
    s.post enc Tryd.prog f false true false false W args (.bool true) W' := by
  have hlt := fun x hx => hW.lt x hx
  obtain ⟨p, q, hA, hV, e, _⟩ := id hW
  rw [hvars] at hV
  obtain ⟨rfl, rfl⟩ := trodVars_none hV
  rw [List.append_nil] at e
  subst e
  refine ⟨ds, [], before, [], before, [], hW, ?_, ?_, ?_, hb.frame _, fun h => by cases h⟩
  · rw [hspec.1, hres]
    exact trodAll_mk1 (shut_bool Tryd.underlying4 true)
  · rw [hspec.2.1]
    exact trodAll_keep hb hpar hlt hA
  · rw [hvars, hspec.2.2]
    rfl
end

end Go.Proofs.YtebliaclleplgaaDoor

/- Walks: Valid and the reference's Valid, of diagrams of any size. -/
namespace Go.Proofs.YtebliaclleplgaaDoor
open Go.RowKit

set_option maxHeartbeats 800000 in
theorem limits_all (A B : Option Addr) (ns cs nm cm : Nat) (lp : Int) (w : World) :
    Calls Tryd.prog 35 #[dval A ns cs B nm cm lp] w fun e w' => e = .returned (.bool (limB ns nm lp)) ∧ Below w.heap.size w w' := by
  by_cases h1 : ns ≤ 64
  · by_cases h2 : nm = 4 * ns
    · subst h2
      by_cases h3 : 0 ≤ lp
      · by_cases h4 : lp ≤ 64
        · have e : limB ns (4 * ns) lp = true := by simp [limB, *]
          rw [e]; clear e
          go_enter Tryd.func35, Tryd.ntmps35
          go_wp2
          go_ret
          exact ⟨rfl, below_alloc _ _⟩
        · have e : limB ns (4 * ns) lp = false := by simp [limB, *]
          rw [e]; clear e
          have h4' : 64 < lp := by omega
          go_enter Tryd.func35, Tryd.ntmps35
          go_wp2
          go_ret
          exact ⟨rfl, below_alloc _ _⟩
      · have e : limB ns (4 * ns) lp = false := by simp [limB, *]
        rw [e]; clear e
        have h4' : lp < 0 := by omega
        go_enter Tryd.func35, Tryd.ntmps35
        go_wp2
        go_ret
        exact ⟨rfl, below_alloc _ _⟩
    · have e : limB ns nm lp = false := by simp [limB, *]
      rw [e]; clear e
      have h4 : ((nm : Int) == 4 * (ns : Int)) = false := by simp; omega
      go_enter Tryd.func35, Tryd.ntmps35
      go_wp2
      go_ret
      exact ⟨rfl, below_alloc _ _⟩
  · have e : limB ns nm lp = false := by simp [limB, *]
    rw [e]; clear e
    have h4' : 64 < ns := by omega
    go_enter Tryd.func35, Tryd.ntmps35
    go_wp2
    go_ret
    exact ⟨rfl, below_alloc _ _⟩

set_option maxHeartbeats 1600000 in
set_option maxRecDepth 100000 in
theorem rvalid_limA (A B : Option Addr) (ns cs nm cm : Nat) (lp : Int) (w : World) (hl : limB ns nm lp = false) :
    Calls Tryd.prog 11 #[dval A ns cs B nm cm lp] w fun e w' => e = .returned (.bool false) ∧ Below w.heap.size w w' := by
  by_cases h1 : ns ≤ 64
  · by_cases h2 : nm = 4 * ns
    · subst h2
      by_cases h3 : 0 ≤ lp
      · have h4' : 64 < lp := by
          by_cases h4 : lp ≤ 64
          · simp [limB, *] at hl
          · omega
        clear hl
        go_enter Tryd.func11, Tryd.ntmps11
        go_wp2
        go_ret
        exact ⟨rfl, below_alloc _ _⟩
      · have h4' : lp < 0 := by omega
        clear hl h3
        go_enter Tryd.func11, Tryd.ntmps11
        go_wp2
        go_ret
        exact ⟨rfl, below_alloc _ _⟩
    · have h4 : ((nm : Int) != 4 * (ns : Int)) = true := by simp only [bne_iff_ne, ne_eq]; omega
      clear hl h2
      go_enter Tryd.func11, Tryd.ntmps11
      go_wp2
      go_ret
      exact ⟨rfl, below_alloc _ _⟩
  · have h4' : 64 < ns := by omega
    clear hl h1
    go_enter Tryd.func11, Tryd.ntmps11
    go_wp2
    go_ret
    exact ⟨rfl, below_alloc _ _⟩

set_option maxHeartbeats 1600000 in
theorem valid_limA (A B : Option Addr) (ns cs nm cm : Nat) (lp : Int) (w : World) (hl : limB ns nm lp = false) :
    Calls Tryd.prog 13 #[dval A ns cs B nm cm lp] w fun e w' => e = .returned (.bool false) ∧ Below w.heap.size w w' := by
  obtain ⟨d0, d1, d2, dlt⟩ := DB.new w A ns cs B nm cm lp
  have hb0 := below_alloc w (dbox A ns cs B nm cm lp)
  have HC1 := Lib.hid (limits_all A B ns cs nm cm lp (w.alloc (dbox A ns cs B nm cm lp)))
  rw [hl] at HC1
  clear hl
  go_enter Tryd.func13, Tryd.ntmps13
  go_wp2_with (go_at_call 35; ((with_reducible refine HC1.out.mono ?_); rintro e w1 ⟨rfl, hb1⟩))
  go_ret
  exact ⟨rfl, below_step hb0 hb1⟩
theorem mt_in {m : List Int} (h : ∀ z ∈ m, inI z) (j : Nat) : -9223372036854775808 ≤ mt m j ∧ mt m j ≤ 9223372036854775807 := by
  unfold mt
  rcases Nat.lt_or_ge j m.length with hj | hj
  · have e : m.getD j 0 = m[j] := by simp [List.getD, hj]
    rw [e]; exact h _ (List.getElem_mem hj)
  · have e : m.getD j 0 = 0 := by simp [List.getD, hj]
    rw [e]; omega
theorem lim_small {ns nm : Nat} {lp : Int} (h : limB ns nm lp = true) : ns ≤ 64 ∧ nm ≤ 256 := by have := limB_out h; omega
/-- A diagram within the limits is a small one. -/
theorem DV.lim {w : World} {A B : Option Addr} {ns nm : Nat} {s m : List Int} {lp : Int} (hs : RI w A ns s) (hm : RI w B nm m) (hmI : ∀ z ∈ m, inI z) (hl : limB ns nm lp = true) : DV w A ns B nm s m :=
  ⟨hs, hm, by have := lim_small hl; omega, by have := lim_small hl; omega, fun j _ => mt_in hmI j⟩
theorem validB_limA {s m : List Int} {lp : Int} {ns nm : Nat} (hs : s.length = ns) (hm : m.length = nm) (hl : limB ns nm lp = false) : validB s m lp = false := by
  unfold validB; rw [hs, hm, hl]; rfl
theorem DV.valid' {w : World} {A B : Option Addr} {ns nm : Nat} {s m : List Int} {lp : Int} (hs : RI w A ns s) (hm : RI w B nm m) (hmI : ∀ z ∈ m, inI z) (hv : validB s m lp = true) : DV w A ns B nm s m := by
  cases hl : limB ns nm lp with
  | true => exact DV.lim hs hm hmI hl
  | false => rw [validB_limA hs.1 hm.1 hl] at hv; cases hv
theorem valid_all {A B : Option Addr} {ns nm : Nat} (cs cm : Nat) {lp : Int} {s m : List Int} {w : World} (hs : RI w A ns s) (hm : RI w B nm m) (hmI : ∀ z ∈ m, inI z) (r : Bool) (hr : validB s m lp = r) :
    Calls Tryd.prog 13 #[dval A ns cs B nm cm lp] w fun e w' => e = .returned (.bool r) ∧ Below w.heap.size w w' := by
  cases hl : limB ns nm lp with
  | true => exact (DV.lim hs hm hmI hl).valid cs cm lp r hr
  | false =>
    rw [validB_limA hs.1 hm.1 hl] at hr
    subst hr
    exact valid_limA A B ns cs nm cm lp w hl
theorem rvalid_all {A B : Option Addr} {ns nm : Nat} (cs cm : Nat) {lp : Int} {s m : List Int} {w : World} (hs : RI w A ns s) (hm : RI w B nm m) (hmI : ∀ z ∈ m, inI z) (r : Bool) (hr : validB s m lp = r) :
    Calls Tryd.prog 11 #[dval A ns cs B nm cm lp] w fun e w' => e = .returned (.bool r) ∧ Below w.heap.size w w' := by
  cases hl : limB ns nm lp with
  | true => exact (DV.lim hs hm hmI hl).rvalid cs cm lp r hr
  | false =>
    rw [validB_limA hs.1 hm.1 hl] at hr
    subst hr
    exact rvalid_limA A B ns cs nm cm lp w hl

end Go.Proofs.YtebliaclleplgaaDoor

/- Walk: Encode. -/
namespace Go.Proofs.YtebliaclleplgaaDoor
open Go.ChangeShapes Go.WideShapes Go.ChangeAt Go.RowKit Go.Joins

abbrev bys (xs : List Int) : List Value := xs.map (Value.int .u8)
/-- A slice of bytes that reads as xs. -/
def RB (w : World) (A : Option Addr) (n : Nat) (xs : List Int) : Prop :=
  xs.length = n ∧ (0 < n → ∃ b off, A = some ⟨b, off, none⟩ ∧ b < w.heap.size ∧ ∀ j, j < n → w.cell? ⟨b, off + j, none⟩ = some (.int .u8 (xs.getD j 0)))
theorem RB.keep {w w' : World} {A : Option Addr} {n : Nat} {xs : List Int} (h : RB w A n xs) (hb : Below w.heap.size w w') : RB w' A n xs :=
  ⟨h.1, fun hn => by
    obtain ⟨b, off, e, hlt, hc⟩ := h.2 hn
    exact ⟨b, off, e, Nat.lt_of_lt_of_le hlt hb.size, fun j hj => (hb.cell (p := ⟨b, off + j, none⟩) hlt).trans (hc j hj)⟩⟩
theorem rb_own {w : World} {B n c : Nat} {A : Option Addr} {xs : List Int} (h : ownRow w B 5 (.slice A n c) (bys xs)) : RB w A xs.length xs ∧ n = xs.length := by
  rcases id h.2 with ⟨h1, h2⟩ | ⟨g, cap, cur, h1, hg, hh, hcap, _⟩
  · have hl : xs.length = 0 := by simpa using h2
    injection h1 with e1 e2 e3
    exact ⟨⟨rfl, fun hn => by omega⟩, by omega⟩
  · injection h1 with e1 e2 e3
    subst e1
    have hl : (bys xs).length = xs.length := by simp
    refine ⟨⟨rfl, fun _ => ⟨g, 0, rfl, (World.ownsRow.lt h g rfl).2, fun j hj => ?_⟩⟩, by omega⟩
    have h2 := h.cells (g := g) rfl j (.int .u8 (xs.getD j 0)) (by simp [List.getD, hj])
    have ha : (⟨g, 0, none⟩ : Addr).add j = ⟨g, 0 + j, none⟩ := by unfold Addr.add; split <;> simp_all
    rwa [ha] at h2
theorem rb_cap {w : World} {B n c : Nat} {A : Option Addr} {xs : List Int} (h : ownRow w B 5 (.slice A n c) (bys xs)) : n ≤ c := by
  rcases id h.2 with ⟨h1, h2⟩ | ⟨g, cap, cur, h1, hg, hh, hcap, _⟩
  · injection h1 with _ e2 e3; omega
  · injection h1 with _ e2 e3; omega
theorem enL_len (s : List Int) (pM : Nat → Nat) (lp : Int) (k : Nat) : (enL s pM lp k).length ≤ 2 + (s.length + 7) / 8 + k := by
  unfold enL
  have h1 := btL_len s s.length
  have h2 := mtL_le s pM k
  simp only [List.length_cons, List.length_append]
  omega

set_option maxHeartbeats 6400000 in
set_option maxRecDepth 100000 in
theorem encode_cap (A B : Option Addr) (ns cs nm cm : Nat) (lp : Int) (s m : List Int) (w : World) (h : DV w A ns B nm s m) (hv : validB s m lp = true) :
    Calls Tryd.prog 19 #[dval A ns cs B nm cm lp] w fun e w' => ∃ A' c, e = .returned (.tuple #[.slice A' (enL s (matesOf m) lp nm).length c, .int .i64 0]) ∧ RB w' A' (enL s (matesOf m) lp nm).length (enL s (matesOf m) lp nm) ∧ (enL s (matesOf m) lp nm).length ≤ c ∧ Below w.heap.size w w' := by
  have F := bk_facts hv
  have hls := h.hs.1
  have hlm := h.hm.1
  have hl4 := F.lm
  have h64 := F.le
  obtain ⟨_, _, l3, l4⟩ := limB_out F.lim
  have hmm : ∀ x, x < nm → m.getD x 0 = (matesOf m x : Int) ∧ matesOf m x < nm := matesOf_mates F.pr hlm
  have hns : ns ≤ 64 := by omega
  have hnm : nm ≤ 256 := by omega
  have e4 : nm = 4 * ns := by omega
  have hd := DB.new w A ns cs B nm cm lp
  have hb0 := below_alloc w (dbox A ns cs B nm cm lp)
  have HD0 := Lib.hid hd
  have HDV := Lib.hid (h.keep hb0)
  have CV : ∀ W, DV W A ns B nm s m → Hid (Calls Tryd.prog 13 #[dval A ns cs B nm cm lp] W fun e w' => e = .returned (.bool true) ∧ Below W.heap.size W w') := fun W h => h.valid cs cm lp true hv
  obtain ⟨lpn, rfl⟩ := Int.eq_ofNat_of_zero_le l3
  have hlpn : lpn ≤ 64 := by omega
  obtain ⟨pM, hpM⟩ : ∃ pM, matesOf m = pM := ⟨_, rfl⟩
  rw [hpM] at hmm ⊢
  have HMM := Lib.hid hmm
  have HE4 := Lib.hid e4
  have hE0 : enL s pM (lpn : Nat) 0 = [(ns : Int), (lpn : Nat)] ++ btL s ns := by
    have : mtL s pM 0 = [] := rfl
    unfold enL; rw [this, hls]; simp
  have HE0 := Lib.hid hE0
  have HEL : Hid (∀ k, k ≤ nm → (enL s pM (lpn : Nat) k).length ≤ 1000) := Lib.hid fun k hk => by have := enL_len s pM (lpn : Nat) k; omega
  have HES : Hid (∀ k, enL s pM (lpn : Nat) (k + 1) = if outB s k = true then enL s pM (lpn : Nat) k ++ [(pM k : Int)] else enL s pM (lpn : Nat) k) := Lib.hid (enL_succ s pM _)
  have w1n : IntKind.u8.wrap (ns : Int) = (ns : Int) := by rw [IntKind.wrap_u8']; omega
  have w1l : IntKind.u8.wrap (lpn : Int) = (lpn : Int) := by rw [IntKind.wrap_u8']; omega
  clear F hl4 h64 l3 l4 hls hlm h hv e4 hmm hE0 hpM
  obtain ⟨d0, d1, d2, dlt⟩ := hd
  unfold dbox at *
  go_enter Tryd.func19, Tryd.ntmps19
  go_upto_region 4 with ((go_at_call 13; ((with_reducible refine (CV _ HDV.out).out.mono ?_); rintro e w1 ⟨rfl, hb1⟩; have HD1 := Lib.hid (HD0.out.keep hb1); obtain ⟨x0, x1, x2, xlt⟩ := HD1.out; have HDV1 := Lib.hid (HDV.out.keep hb1))))
  clear d0 d1 d2 dlt
  have hbB := below_alloc w1 (.cells #[.int .u8 (ns : Int), .int .u8 (lpn : Int)] 5)
  have HO0 : Hid (ownRow (w1.alloc (.cells #[.int .u8 (ns : Int), .int .u8 (lpn : Int)] 5)) w1.heap.size 5 (.slice (some ⟨w1.heap.size, 0, none⟩) 2 2) (bys [(ns : Int), (lpn : Nat)])) := Lib.hid (World.ownsRow_lit w1 #[.int .u8 (ns : Int), .int .u8 (lpn : Int)] 2 (Nat.le_refl _) (by simp [maxLen]) rfl)
  have HDB := Lib.hid (HD1.out.keep hbB)
  have HSB := Lib.hid (HDV1.out.hs.keep hbB)
  have hb01 := below_step hb0 hb1
  go_upto_region 5 with fail
  have HSZ : Hid (w1.heap.size ≤ (w1.alloc (.cells #[.int .u8 (ns : Int), .int .u8 (lpn : Int)] 5)).heap.size) := Lib.hid (by simp)
  generalize w1.alloc (.cells #[.int .u8 (ns : Int), .int .u8 (lpn : Int)] 5) = wB at *
  obtain ⟨y0, y1, y2, ylt⟩ := HDB.out
  have CB := Lib.hid (bitsOf_any A ns cs s wB HSB.out hns)
  obtain ⟨i0, hi, hz0, hz1, hz2⟩ := info_parts Tryd.infoByteP
  obtain ⟨nb, hnb⟩ : ∃ nb, (ns + 7) / 8 = nb := ⟨_, rfl⟩
  rw [hnb] at CB
  have HNB := Lib.hid hnb
  have hnb9 : nb ≤ 8 := by omega
  clear hnb x0 x1 x2 xlt
  go_wp2_with (first
    | (at_builtin
       refine wpList_append_own _ rfl (.tmp 20) (.tmp 23) 39 rfl w1.heap.size 5 i0 (.int .u8 0) 1 1 Tryd.underlying39 hi hz0 hz1 hz2 rfl (by decide) _ _ (bys [(ns : Int), (lpn : Nat)]) rfl (ownRow.keep HO0.out hb2) ⟨wB.heap.size, 0, none⟩ nb nb (bys (btL s ns)) rfl (by simp [btL_len, HNB.out]) ?c1 ?c2 ?c3 ?c4 ?c5 ?_
       case c1 =>
         (intro j u hj
          have hjl : j < nb := by
            have := (List.getElem?_eq_some_iff.1 hj).1
            rw [List.length_map, btL_len, HNB.out] at this
            exact this
          have h1 := har2.cell j hjl
          have ha : (⟨wB.heap.size, 0, none⟩ : Addr).add j = ⟨wB.heap.size, j, none⟩ := by unfold Addr.add; split <;> simp_all
          rw [ha, h1]
          have hj2 := hj
          simp [btL, HNB.out, hjl] at hj2
          rw [← hj2])
       case c2 => (intro u hu; obtain ⟨x, _, rfl⟩ := List.mem_map.1 hu; rfl)
       case c3 => (unfold maxLen; simp; omega)
       case c4 => (simp; omega)
       case c5 => (have := hb2.size; have := HSZ.out; omega)
       intro v3 w3 hown3 hg3 _
       have hb13 : Below w1.heap.size w1 w3 := (hbB.trans (hb2.mono HSZ.out)).grown hg3 (by have := hb2.size; have := HSZ.out; omega) (fun q hq => (World.ownsRow.lt (ownRow.keep HO0.out hb2) q hq).1)
       obtain ⟨z0, z1, z2, zlt⟩ := HD1.out.keep hb13)
    | (go_at_call 50; ((with_reducible refine CB.out.mono ?_); rintro e w2 ⟨rfl, har2, hb2⟩)))
  have HO3 : Hid (ownRow w3 w1.heap.size 5 v3 (bys (enL s pM (lpn : Nat) 0))) := Lib.hid (by
    rw [HE0.out]
    have e1 : bys ([(ns : Int), (lpn : Nat)] ++ btL s ns) = bys [(ns : Int), (lpn : Nat)] ++ bys (btL s ns) := by simp
    have e2 : (bys ([(ns : Int), (lpn : Nat)] ++ btL s ns)).length = 2 + nb := by simp [btL_len, HNB.out]; omega
    unfold ownRow
    rw [e2, e1]; exact hown3)
  clear hown3 hg3 har2 y0 y1 y2 ylt
  have hs13 := hb13.size
  have HM1 := Lib.hid HDV1.out.hm
  have HS1 := Lib.hid HDV1.out.hs
  have HD3 := Lib.hid HD1.out
  go_loopw [5, 6, 7, 28] (fun v _ _ i wr => ∃ k : Nat, k ≤ nm ∧ i = .int .i64 k ∧ Below w1.heap.size w1 wr ∧ ownRow wr w1.heap.size 5 v (bys (enL s pM (lpn : Nat) k))) (fun _ _ _ i _ => nm - (intOf i).toNat)
  case atStart => exact ⟨0, by omega, rfl, hb13, HO3.out⟩
  case round =>
    obtain ⟨k, hk, rfl, hbr, hor⟩ := hrel
    have hk0 : (0 : Int) ≤ (k : Int) := Int.natCast_nonneg _
    have hsr := hbr.size
    have HOR := Lib.hid hor
    clear hor
    by_cases hlt : k < nm
    · obtain ⟨bB, oB, rfl, hbB, hcB⟩ := HM1.out.2 (by omega)
      have hmk := HMM.out k hlt
      have c0 := (hbr.cell (p := ⟨bB, oB + k, none⟩) hbB).trans (hcB k hlt)
      rw [hmk.1] at c0
      obtain ⟨x, hx⟩ : ∃ x, pM k = x := ⟨_, rfl⟩
      rw [hx] at c0 hmk
      have hxn := hmk.2
      have hxw : IntKind.u8.wrap (x : Int) = (x : Int) := by rw [IntKind.wrap_u8']; omega
      have hstep := HES.out k
      rw [hx] at hstep
      have hel := HEL.out k hk
      obtain ⟨q0, q1, q2, qlt⟩ := HD3.out.keep hbr
      have CO := Lib.hid (isOut_any A ns cs s k wr (HS1.out.keep hbr) (by have := HE4.out; omega) (by omega))
      have hk1 : (k : Int) < (nm : Int) := by omega
      obtain ⟨cur, hcur⟩ : ∃ cur, enL s pM (lpn : Nat) k = cur := ⟨_, rfl⟩
      rw [hcur] at hstep hel
      have HOC : Hid (ownRow wr w1.heap.size 5 _ (bys cur)) := Lib.hid (hcur ▸ HOR.out)
      have HST := Lib.hid hstep
      clear hcB hmk hx hstep hcur
      cases ho : outB s k with
      | true =>
        rw [ho] at CO HST
        rw [if_pos rfl] at HST
        clear ho
        go_wp2_with (first
          | (at_builtin; refine wpList_append_row1 rfl (.tmp 37) (.tmp 40) 39 5 (.int .u8 0) 1 rfl Tryd.underlying39 Tryd.infoByteP rfl (by omega) w1.heap.size _ (bys cur) rfl (World.ownsRow.alloc HOC.out _) wr.heap.size (.int .u8 (x : Nat)) rfl (by rw [World.cell?_alloc_at _ _ _ _ rfl]; rfl) rfl (by simp; omega) (by simp; omega) ?_; intro A5 c5 w5 hrow5 hg5)
          | (go_at_call 51; ((with_reducible refine CO.out.mono ?_); rintro e w4 ⟨rfl, rfl⟩)))
        have hb5 : Below w1.heap.size w1 w5 := ((hbr.alloc hsr _).grown hg5 (by simp; omega) (fun k hk => (World.ownsRow.lt HOC.out k hk).1))
        have HR5 : Hid (ownRow w5 w1.heap.size 5 (.slice A5 ((bys cur).length + 1) c5) (bys (enL s pM (lpn : Nat) (k + 1)))) := Lib.hid (by
          rw [HST.out]
          have e1 : bys (cur ++ [(x : Int)]) = bys cur ++ [.int .u8 (x : Nat)] := by simp
          rw [e1]; exact hrow5)
        clear hrow5 hg5
        go_roundw
        case rel => exact ⟨k + 1, by omega, by go_num, hb5, by have := HR5.out; rwa [List.length_map] at this⟩
        case measure => simp [intOf]; omega
      | false =>
        rw [ho] at CO HST
        rw [if_neg (by decide)] at HST
        clear ho
        go_wp2_with ((go_at_call 51; ((with_reducible refine CO.out.mono ?_); rintro e w4 ⟨rfl, rfl⟩)))
        go_roundw
        case rel => exact ⟨k + 1, by omega, by go_num, hbr, by rw [HST.out]; exact HOC.out⟩
        case measure => simp [intOf]; omega
    · obtain rfl : nm = k := by omega
      have hown := HOR.out
      obtain ⟨A7, n7, c7, rfl⟩ : ∃ A n c, u5 = .slice A n c := by
        rcases id hown.2 with ⟨h1, _⟩ | ⟨g, cap, cur, h1, _⟩
        · exact ⟨_, _, _, h1⟩
        · exact ⟨_, _, _, h1⟩
      have HCAP := Lib.hid (rb_cap hown)
      obtain ⟨hrb, rfl⟩ := rb_own hown
      have HRB := Lib.hid hrb
      have HBF : Hid (Below w.heap.size w wr) := Lib.hid (hb01.trans (hbr.mono hb01.size))
      clear hrb hown
      go_wp2
      go_ret2
      exact ⟨_, _, rfl, HRB.out, HCAP.out, HBF.out⟩
theorem encode_yes (A B : Option Addr) (ns cs nm cm : Nat) (lp : Int) (s m : List Int) (w : World) (h : DV w A ns B nm s m) (hv : validB s m lp = true) :
    Calls Tryd.prog 19 #[dval A ns cs B nm cm lp] w fun e w' => ∃ A' c, e = .returned (.tuple #[.slice A' (enL s (matesOf m) lp nm).length c, .int .i64 0]) ∧ RB w' A' (enL s (matesOf m) lp nm).length (enL s (matesOf m) lp nm) ∧ Below w.heap.size w w' :=
  (encode_cap A B ns cs nm cm lp s m w h hv).mono fun _ _ ⟨A', c, he, hr, _, hb⟩ => ⟨A', c, he, hr, hb⟩

end Go.Proofs.YtebliaclleplgaaDoor

/- Walk: readBits. -/
namespace Go.Proofs.YtebliaclleplgaaDoor
open Go.ChangeShapes Go.WideShapes Go.ChangeAt Go.RowKit Go.Joins

set_option maxHeartbeats 6400000 in
set_option maxRecDepth 100000 in
theorem readBits_any (A : Option Addr) (nb c n : Nat) (ys : List Int) (w : World) (hA : RB w A nb ys) (hnb : (n + 7) / 8 = nb) (hn : n ≤ 64) (hy : byteL ys) :
    Calls Tryd.prog 53 #[.slice A nb c, .int .i64 (n : Nat)] w fun e w' => ∃ r : Bool, e = .returned (.tuple #[.slice (some ⟨w.heap.size, 0, none⟩) n n, .bool r]) ∧ r = !(unY ys n) ∧ RI w' (some ⟨w.heap.size, 0, none⟩) n (sgY ys n) ∧ Below w.heap.size w w' := by
  have hmk := fun W => make_one (P := Tryd.prog) Tryd.underlying22 Tryd.infoInt rfl n (by omega) (by omega) W
  have hb0 := below_alloc w (.cells (cellsN n fun _ => .int .i64 0) 3)
  have HA0 : Hid (Arr (w.alloc (.cells (cellsN n fun _ => .int .i64 0) 3)) w.heap.size 3 n (zv fun i => if i < 0 then 2 * (bitY ys i : Int) - 1 else 0)) := Lib.hid ((Arr.new w n 3 fun _ => .int .i64 0).congr fun i _ => by simp)
  have HB := Lib.hid hA
  have HNB := Lib.hid hnb
  have HY : Hid (∀ i, ys.getD i 0 = (yN ys i : Int) ∧ yN ys i < 256) := Lib.hid fun i => yN_cast hy i
  have hn1 : (n : Int) ≤ 64 := by omega
  have hn0 : (0 : Int) ≤ (n : Int) := Int.natCast_nonneg _
  clear hA hnb hy
  go_enter Tryd.func53, Tryd.ntmps53
  go_wp2
  generalize w.alloc (.cells (cellsN n fun _ => .int .i64 0) 3) = wA at *
  go_loopw [7, 13] (fun _ i wr => ∃ k : Nat, k ≤ n ∧ i = .int .i64 k ∧ Below w.heap.size w wr ∧ Arr wr w.heap.size 3 n (zv fun i => if i < k then 2 * (bitY ys i : Int) - 1 else 0)) (fun _ i _ => n - (intOf i).toNat)
  case atStart => exact ⟨0, by omega, rfl, hb0, HA0.out⟩
  case round =>
    obtain ⟨k, hk, rfl, hbr, har⟩ := hrel
    have hk0 : (0 : Int) ≤ (k : Int) := Int.natCast_nonneg _
    have HAR := Lib.hid har
    by_cases hlt : k < n
    · obtain ⟨q, hq⟩ : ∃ q, k / 8 = q := ⟨_, rfl⟩
      obtain ⟨r, hr⟩ : ∃ r, k % 8 = r := ⟨_, rfl⟩
      have hqn : q < nb := by have := HNB.out; omega
      obtain ⟨b, o, rfl, hb, hc⟩ := HB.out.2 (by omega)
      obtain ⟨hye, hy256⟩ := HY.out q
      have c0 := (hbr.cell (p := ⟨b, o + q, none⟩) hb).trans (hc q hqn)
      rw [hye] at c0
      have hbit : bitY ys k = yN ys q / 2 ^ r % 2 := by unfold bitY; rw [hq, hr]
      obtain ⟨y, hyy⟩ : ∃ y, yN ys q = y := ⟨_, rfl⟩
      rw [hyy] at c0 hy256 hbit
      obtain ⟨p, hp⟩ : ∃ p, 2 ^ r = p := ⟨_, rfl⟩
      have hp128 : 2 ^ r ≤ 128 := Nat.le_trans (Nat.pow_le_pow_right (by decide) (by omega : r ≤ 7)) (by decide)
      rw [hp] at hbit hp128
      obtain ⟨z, hz⟩ : ∃ z, y / p = z := ⟨_, rfl⟩
      have hzy : z ≤ y := by rw [← hz]; exact Nat.div_le_self _ _
      obtain ⟨t, ht⟩ : ∃ t, z % 2 = t := ⟨_, rfl⟩
      rw [hz, ht] at hbit
      have ht2 : t < 2 := by omega
      have e1 : (k : Int) / 8 = (q : Int) := by omega
      have e2 : (k : Int) % 8 = (r : Int) := by omega
      have e3 : ((2 : Int) ^ r) = (p : Int) := by rw [← hp]; norm_cast
      have e4 : (y : Int) / (p : Int) = (z : Int) := by rw [← hz]; norm_cast
      have e5 : bits .and .u8 (z : Int) 1 = (t : Int) := by
        have := u8_and_nat z 1 (by omega) (by decide)
        rw [Nat.and_one_is_mod, ht] at this
        exact this
      have q0 : (0 : Int) ≤ (q : Int) := Int.natCast_nonneg _
      have q1 : (q : Int) < (nb : Int) := by omega
      have r0 : (0 : Int) ≤ (r : Int) := Int.natCast_nonneg _
      have r1 : (r : Int) < 8 := by omega
      have y0 : (0 : Int) ≤ (y : Int) := Int.natCast_nonneg _
      have t0 : (0 : Int) ≤ (t : Int) := Int.natCast_nonneg _
      have t1 : (t : Int) < 2 := by omega
      have z0 : (0 : Int) ≤ (z : Int) := Int.natCast_nonneg _
      have m1 : IntKind.i64.wrap (2 * (t : Int)) = 2 * (t : Int) := IntWalk.i64_in _ (by omega)
      have m2 : IntKind.i64.wrap (2 * (t : Int) - 1) = 2 * (t : Int) - 1 := IntWalk.i64_in _ (by omega)
      have f1 := har.frozen k
      have k1 := har.cell k hlt
      have hk1 : (k : Int) < (n : Int) := by omega
      have HBIT := Lib.hid hbit
      clear hc hye hbit hyy hp hz ht hq hr har
      go_wp2
      go_roundw
      case rel => exact ⟨k + 1, by omega, by go_num, below_set hbr (Nat.le_refl _) _, (HAR.out.setz k (2 * (t : Int) - 1)).congr fun i _ => by
        by_cases e : i = k
        · subst e; simp [HBIT.out]
        · have : i < k + 1 ↔ i < k := by omega
          simp [e, this]⟩
      case measure => simp [intOf]; omega
    · obtain rfl : n = k := by omega
      have HRI : Hid (RI wr (some ⟨w.heap.size, 0, none⟩) n (sgY ys n)) := Lib.hid ⟨sgY_len _ _, fun _ => ⟨_, 0, rfl, har.lt, fun j hj => by
        rw [Nat.zero_add, har.cell j hj, sgY_get hj]; simp [hj]⟩⟩
      obtain ⟨r, hr⟩ : ∃ r, n % 8 = r := ⟨_, rfl⟩
      have e2 : (n : Int) % 8 = (r : Int) := by omega
      have r0 : (0 : Int) ≤ (r : Int) := Int.natCast_nonneg _
      have r1 : (r : Int) < 8 := by omega
      clear har
      by_cases hr0 : r = 0
      · have e6 : ((r : Int) == 0) = true := by simpa using hr0
        have e7 : ((r : Int) != 0) = false := by rw [bne, e6]; rfl
        have HU : Hid (true = !(unY ys n)) := Lib.hid (by unfold unY; rw [hr, hr0]; rfl)
        clear hr hr0
        go_wp2
        go_ret2
        exact ⟨_, rfl, HU.out, HRI.out, hbr⟩
      · obtain ⟨q, hq⟩ : ∃ q, n / 8 = q := ⟨_, rfl⟩
        have hqn : q < nb := by have := HNB.out; omega
        obtain ⟨b, o, rfl, hb, hc⟩ := HB.out.2 (by omega)
        obtain ⟨hye, hy256⟩ := HY.out q
        have c0 := (hbr.cell (p := ⟨b, o + q, none⟩) hb).trans (hc q hqn)
        rw [hye] at c0
        have hun : unY ys n = decide (yN ys q / 2 ^ r ≠ 0) := by unfold unY; rw [hr, hq, decide_eq_true hr0]; rfl
        obtain ⟨y, hyy⟩ : ∃ y, yN ys q = y := ⟨_, rfl⟩
        rw [hyy] at c0 hy256 hun
        obtain ⟨p, hp⟩ : ∃ p, 2 ^ r = p := ⟨_, rfl⟩
        rw [hp] at hun
        obtain ⟨z, hz⟩ : ∃ z, y / p = z := ⟨_, rfl⟩
        have hzy : z ≤ y := by rw [← hz]; exact Nat.div_le_self _ _
        rw [hz] at hun
        have e1 : (n : Int) / 8 = (q : Int) := by omega
        have e3 : ((2 : Int) ^ r) = (p : Int) := by rw [← hp]; norm_cast
        have e4 : (y : Int) / (p : Int) = (z : Int) := by rw [← hz]; norm_cast
        have e6 : ((r : Int) == 0) = false := by simpa using hr0
        have e7 : ((r : Int) != 0) = true := by rw [bne, e6]; rfl
        have q0 : (0 : Int) ≤ (q : Int) := Int.natCast_nonneg _
        have q1 : (q : Int) < (nb : Int) := by omega
        have y0 : (0 : Int) ≤ (y : Int) := Int.natCast_nonneg _
        have z0 : (0 : Int) ≤ (z : Int) := Int.natCast_nonneg _
        clear hc hye hyy hp hz hq hr
        by_cases hz0 : z = 0
        · have g1 : ((z : Int) == 0) = true := by simpa using hz0
          have g2 : ((z : Int) != 0) = false := by rw [bne, g1]; rfl
          have HU : Hid (true = !(unY ys n)) := Lib.hid (by rw [hun, hz0]; rfl)
          clear hun hz0
          go_wp2
          go_ret2
          exact ⟨_, rfl, HU.out, HRI.out, hbr⟩
        · have g1 : ((z : Int) == 0) = false := by simpa using hz0
          have g2 : ((z : Int) != 0) = true := by rw [bne, g1]; rfl
          have HU : Hid (false = !(unY ys n)) := Lib.hid (by rw [hun, decide_eq_true hz0]; rfl)
          clear hun hz0
          go_wp2
          go_ret2
          exact ⟨_, rfl, HU.out, HRI.out, hbr⟩

end Go.Proofs.YtebliaclleplgaaDoor

/- Walks: slices.Grow of a nil slice, slices.Concat of rows that are not empty. -/
namespace Go.Proofs.YtebliaclleplgaaDoor
open Go.RowKit

set_option maxHeartbeats 2000000 in
set_option maxRecDepth 100000 in
theorem grow_any (n : Nat) (hn : n ≤ 1000000) (w : World) : Calls Tryd.prog 75 #[.slice none 0 0, .int .i64 (n : Nat)] w fun e w' => ∃ v, e = .returned v ∧ OI w' w.heap.size v [] ∧ Below w.heap.size w w' := by
  have hn0 : (0 : Int) ≤ (n : Int) := Int.natCast_nonneg _
  by_cases hz : n = 0
  · subst hz
    go_enter Tryd.func75, Tryd.ntmps75
    go_wp2
    go_ret
    exact ⟨_, rfl, OI.nil _ _, Below.refl _ _⟩
  · obtain ⟨i0, hi, hz0, hz1, hz2⟩ := info_parts Tryd.infoInt
    have hn1 : 0 < (n : Int) := by omega
    have hrz : ∀ ty, (Builtin.append_ #[22, 3] ty #[.slice none 0 0, .int .i64 (n : Nat)]).run Tryd.prog w =
        .ok (.slice (some ⟨w.heap.size, 0, none⟩) n (grownCap w n 0 3)) (w.drew.alloc (.cells (Builtin.zeroCells #[.int .i64 0] n ++ Builtin.zeroCells #[.int .i64 0] (grownCap w n 0 3 - n)) 3)) := fun ty => by
      have h := Lib.run_append_grow_zeros w 22 3 ty 3 i0 (.int .i64 0) .i64 .i64 Tryd.underlying22 Tryd.underlying3 hi hz0 none 0 0 [] (run_firstCells_none w.drew i0.size 0 0 0) n (by omega) (by omega) (by omega) (by omega) (by rw [hz2]; omega)
        (by rw [hz2, Nat.zero_add]; exact growslice_fits (by omega) (by omega))
      simp only [Nat.zero_add, Value.cells] at h
      simpa using h
    have hGn : n ≤ grownCap w n 0 3 := grownCap_ge w _ _ _
    have hGm : grownCap w n 0 3 ≤ maxLen := grownCap_le_maxLen w n 0 3 (by unfold maxLen; omega)
    obtain ⟨G, hG⟩ : ∃ G, grownCap w n 0 3 = G := ⟨_, rfl⟩
    rw [hG] at hrz hGn hGm
    have HO : Hid (OI (w.drew.alloc (.cells (Builtin.zeroCells #[.int .i64 0] n ++ Builtin.zeroCells #[.int .i64 0] (G - n)) 3)) w.heap.size (.slice (some ⟨w.heap.size, 0, none⟩) 0 G) []) := Lib.hid (World.ownsRow_made w.drew _ G (Nat.le_refl _) hGm (by simp only [Array.size_append, size_zeroCells]; show n * 1 + (G - n) * 1 = G * 1; omega))
    have HB : Hid (Below w.heap.size w (w.drew.alloc (.cells (Builtin.zeroCells #[.int .i64 0] n ++ Builtin.zeroCells #[.int .i64 0] (G - n)) 3))) := Lib.hid ((Below.refl w.heap.size w).drew.alloc (by simp) _)
    have hG63 : G ≤ 9223372036854775807 := by unfold maxLen at hGm; omega
    clear hG hGm hi hz
    go_enter Tryd.func75, Tryd.ntmps75
    go_wp2_with (at_builtin; refine Lib.wpList_append_run _ rfl _ _ _ _ rfl _ _ rfl rfl _ _ (hrz _) ?_)
    go_ret
    exact ⟨_, rfl, HO.out, HB.out⟩

/-- The lists of the first k rows, one behind the other. -/
def flT (xss : List (List Int)) (k : Nat) : List Int := (xss.take k).flatten
theorem flT_succ (xss : List (List Int)) (k : Nat) (h : k < xss.length) : flT xss (k + 1) = flT xss k ++ xss.getD k [] := by
  unfold flT
  rw [List.take_add_one, List.flatten_append]
  simp [List.getD, h]
theorem flT_all (xss : List (List Int)) : flT xss xss.length = xss.flatten := by unfold flT; rw [List.take_length]
theorem flT_le (xss : List (List Int)) (k : Nat) : (flT xss k).length ≤ xss.flatten.length := by
  have e := congrArg List.length (congrArg List.flatten (List.take_append_drop k xss))
  rw [List.flatten_append, List.length_append] at e
  unfold flT; omega

set_option maxHeartbeats 3200000 in
set_option maxRecDepth 100000 in
theorem concat_any (A : Option Addr) (n c : Nat) (xss : List (List Int)) (w : World) (hA : RO w A n xss) (hn : n ≤ 1000) (hl : xss.flatten.length ≤ 1000) (hne : ∀ j, j < n → 0 < (xss.getD j []).length) :
    Calls Tryd.prog 57 #[.slice A n c] w fun e w' => ∃ v, e = .returned v ∧ OI w' w.heap.size v xss.flatten ∧ Below w.heap.size w w' := by
  have hxl := hA.1
  have HA := Lib.hid hA
  have HNE := Lib.hid hne
  have HXL := Lib.hid hxl
  have HF := Lib.hid (flT_all xss)
  have hle : ∀ k, (flT xss k).length ≤ 1000 := fun k => Nat.le_trans (flT_le xss k) hl
  have HLE := Lib.hid hle
  have HROW : Hid (∀ k, k < n → ∃ b o c', A = some ⟨b, o, none⟩ ∧ b < w.heap.size ∧ ∃ b' o', w.cell? ⟨b, o + k, none⟩ = some (.slice (some ⟨b', o', none⟩) (xss.getD k []).length c') ∧ b' < w.heap.size ∧ ∀ j, j < (xss.getD k []).length → w.cell? ⟨b', o' + j, none⟩ = some (.int .i64 ((xss.getD k []).getD j 0))) := Lib.hid fun k hk => by
    obtain ⟨b, o, e, hb, hc⟩ := hA.2 (by omega)
    obtain ⟨A', n', c', h1, h2⟩ := hc k hk
    obtain rfl := h2.1
    obtain ⟨b', o', e', hb', hc'⟩ := h2.2 (hne k hk)
    exact ⟨b, o, c', e, hb, b', o', by rw [h1, e'], hb', hc'⟩
  clear hA hne hl hxl hle
  go_enter Tryd.func57, Tryd.ntmps57
  go_wp2
  go_loopw [3, 5, 11] (fun z _ i wr => ∃ k : Nat, k ≤ n ∧ i = .int .i64 k ∧ wr = w ∧ z = .int .i64 (flT xss k).length) (fun _ _ i _ => n - (intOf i).toNat)
  case atStart => exact ⟨0, by omega, rfl, rfl, rfl⟩
  case round =>
    obtain ⟨k, hk, rfl, hw, rfl⟩ := hrel
    subst hw
    have hk0 : (0 : Int) ≤ (k : Int) := Int.natCast_nonneg _
    by_cases hlt : k < n
    · obtain ⟨b, o, c', rfl, hb, b', o', hcel, hb', hc'⟩ := HROW.out k hlt
      have hs := flT_succ xss k (by rw [HXL.out]; exact hlt)
      have hle1 := HLE.out (k + 1)
      have hlen : (flT xss (k + 1)).length = (flT xss k).length + (xss.getD k []).length := by rw [hs, List.length_append]
      obtain ⟨q, hq⟩ : ∃ q, (flT xss k).length = q := ⟨_, rfl⟩
      obtain ⟨r, hr⟩ : ∃ r, (xss.getD k []).length = r := ⟨_, rfl⟩
      rw [hq, hr] at hlen
      rw [hr] at hcel
      simp only [hq]
      have HLEN := Lib.hid hlen
      have hqr : q + r ≤ 1000 := by omega
      have hq0 : (0 : Int) ≤ (q : Int) := Int.natCast_nonneg _
      have hr0 : (0 : Int) ≤ (r : Int) := Int.natCast_nonneg _
      have hk1 : (k : Int) < (n : Int) := by omega
      clear hs hlen hq hr hc' hle1
      go_wp2
      go_roundw
      case rel => exact ⟨k + 1, by omega, by go_num, trivial, by rw [HLEN.out]; go_num⟩
      case measure => simp [intOf]; omega
    · obtain rfl : n = k := by omega
      obtain ⟨wO, hwO⟩ : ∃ wO : World, wO = wr := ⟨_, rfl⟩
      subst hwO
      have hle1 := HLE.out n
      obtain ⟨q, hq⟩ : ∃ q, (flT xss n).length = q := ⟨_, rfl⟩
      rw [hq] at hle1
      simp only [hq]
      have CG := Lib.hid (grow_any q (by omega) wO)
      clear hq hlt
      go_wp2_with (go_at_call 75; ((with_reducible refine CG.out.mono ?_); rintro e w1 ⟨v1, rfl, ho1, hb1⟩))
      go_loopw [6, 8, 27] (fun v _ i wr => ∃ k : Nat, k ≤ n ∧ i = .int .i64 k ∧ Below wO.heap.size wO wr ∧ OI wr wO.heap.size v (flT xss k)) (fun _ _ i _ => n - (intOf i).toNat)
      case atStart => exact ⟨0, by omega, rfl, hb1, ho1⟩
      case round =>
        obtain ⟨k, hk, rfl, hbx, hox⟩ := hrel
        have hk0 : (0 : Int) ≤ (k : Int) := Int.natCast_nonneg _
        by_cases hlt : k < n
        · obtain ⟨b, o, c', rfl, hb, b', o', hcel, hb', hc'⟩ := HROW.out k hlt
          have hs := flT_succ xss k (by rw [HXL.out]; exact hlt)
          have hle1 := HLE.out (k + 1)
          rw [hs, List.length_append] at hle1
          have hcelx := (hbx.cell (p := ⟨b, o + k, none⟩) hb).trans hcel
          have hcx : ∀ j, j < (xss.getD k []).length → wr.cell? ⟨b', o' + j, none⟩ = some (.int .i64 ((xss.getD k []).getD j 0)) := fun j hj => (hbx.cell (p := ⟨b', o' + j, none⟩) hb').trans (hc' j hj)
          obtain ⟨row, hrow⟩ : ∃ row, xss.getD k [] = row := ⟨_, rfl⟩
          rw [hrow] at hcelx hcx hs hle1
          have HCX := Lib.hid hcx
          have HS := Lib.hid hs
          have HOX := Lib.hid hox
          obtain ⟨i0, hi, hz0, hz1, hz2⟩ := info_parts Tryd.infoInt
          have hk1 : (k : Int) < (n : Int) := by omega
          obtain ⟨cur, hcur⟩ : ∃ cur, flT xss k = cur := ⟨_, rfl⟩
          rw [hcur] at hle1
          have HCUR := Lib.hid hcur
          have HOC : Hid (OI wr wO.heap.size _ cur) := Lib.hid (hcur ▸ hox)
          obtain ⟨rl, hrl⟩ : ∃ rl, row.length = rl := ⟨_, rfl⟩
          rw [hrl] at hcelx hle1
          have HRL := Lib.hid hrl
          clear hs hcx hox hc' hcel hrow hcur hrl
          go_wp2_with (at_builtin; refine wpList_append_own _ rfl (.tmp 31) (.tmp 32) 22 rfl wO.heap.size 3 i0 (.int .i64 0) 1 8 Tryd.underlying22 hi hz0 hz1 hz2 rfl (by decide) _ _ (ints cur) rfl HOC.out ⟨b', o', none⟩ rl c' (ints row) rfl (by simp [HRL.out]) ?c1 ?c2 ?c3 ?c4 ?c5 ?_)
          case c1 =>
            intro j u hj
            have hjl : j < row.length := by
              have := (List.getElem?_eq_some_iff.1 hj).1
              simpa using this
            have h1 := HCX.out j hjl
            have ha : (⟨b', o', none⟩ : Addr).add j = ⟨b', o' + j, none⟩ := by unfold Addr.add; split <;> simp_all
            rw [ha, h1]
            simp [hjl] at hj
            simp [List.getD, hjl, hj]
          case c2 => intro u hu; obtain ⟨x, _, rfl⟩ := List.mem_map.1 hu; rfl
          case c3 => unfold maxLen; omega
          case c4 => omega
          case c5 => exact hbx.size
          intro v2 w2 ho2 hg2 _
          have hb2 : Below wO.heap.size wO w2 := hbx.grown hg2 hbx.size (fun q hq => (World.ownsRow.lt HOC.out q hq).1)
          have HO2 : Hid (OI w2 wO.heap.size v2 (flT xss (k + 1))) := Lib.hid (by
            rw [HS.out, HCUR.out]
            unfold OI
            have e1 : (cur ++ row).length = cur.length + rl := by rw [List.length_append, HRL.out]
            have e2 : ints (cur ++ row) = ints cur ++ ints row := by simp [ints]
            rw [e1, e2]; exact ho2)
          clear ho2 hg2
          go_wp2
          go_roundw
          case rel => exact ⟨k + 1, by omega, by go_num, hb2, HO2.out⟩
          case measure => simp [intOf]; omega
        · obtain rfl : n = k := by omega
          have HOX := Lib.hid hox
          clear hox
          go_wp2
          go_ret
          exact ⟨_, rfl, by have h1 := HOX.out; rw [← HXL.out, HF.out] at h1; exact h1, hbx⟩

end Go.Proofs.YtebliaclleplgaaDoor
