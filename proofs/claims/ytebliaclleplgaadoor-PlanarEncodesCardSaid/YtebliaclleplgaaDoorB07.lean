import Derived.Test.YtebliaclleplgaaDoorShelf
import Derived.Test.YtebliaclleplgaaDoorB02
import Derived.Lib.FrozenHead2
import Derived.Lib.OthersKept
import Derived.Test.YtebliaclleplgaaDoorB03
import Derived.Lib.ItoaNum
import Derived.Test.YtebliaclleplgaaDoorB01
import Derived.Laws.BitsAllLaws
import Derived.Test.YtebliaclleplgaaDoorB05
import Derived.ProofKit
import Derived.Lib.SmallJoins
import Derived.Test.YtebliaclleplgaaDoorB04
/- strings.Builder at this dump: copyCheck, WriteByte, WriteString (the shelf's do not lie: this library's copyCheck has another body). -/
namespace Go.Proofs.YtebliaclleplgaaDoor
open Go.RowKit

theorem Tryd.sizeBuilder : (Tryd.prog.info? 52).map (·.size) = some 2 := by kernel_rfl
theorem Tryd.liesBuilder : liesAt Tryd.prog Tryd.prog.depth 52 (2 / Tryd.prog.cellsOf 52) 0 52 1 = true := by kernel_rfl
theorem Tryd.infoByteP : (Tryd.prog.info? 5).map (fun i => (i.zero, i.size, i.bytes)) = some (some (.int .u8 0), 1, 1) := by kernel_rfl

set_option maxHeartbeats 1000000 in
set_option maxRecDepth 100000 in
theorem copyCheck_used (b : Nat) (w : World) (h0 : w.cell? ⟨b, 0, none⟩ = some (.pointer (some ⟨b, 0, none⟩))) :
    Calls Tryd.prog 58 #[.pointer (some ⟨b, 0, none⟩)] w fun e w' => e = .returned (.tuple #[]) ∧ w' = w := by
  obtain ⟨j, hj, _⟩ := Option.map_eq_some_iff.1 Tryd.sizeBuilder
  go_enter Tryd.func58, Tryd.ntmps58
  go_wp2
  rw [Lib.run_neq_ptr_same w _ Tryd.underlying50 hj]
  go_wp2
  go_end0
  exact ⟨rfl, rfl⟩

set_option maxHeartbeats 1000000 in
set_option maxRecDepth 100000 in
theorem copyCheck_fresh (b : Nat) (w : World) (h0 : w.cell? ⟨b, 0, none⟩ = some (.pointer none)) (hsh : w.shape? b = some (52, 2)) (hfz : w.frozen? ⟨b, 0, none⟩ = false) :
    Calls Tryd.prog 58 #[.pointer (some ⟨b, 0, none⟩)] w fun e w' => e = .returned (.tuple #[]) ∧ w' = w.setCell ⟨b, 0, none⟩ (.pointer (some ⟨b, 0, none⟩)) := by
  obtain ⟨j, hj, hjs⟩ := Option.map_eq_some_iff.1 Tryd.sizeBuilder
  go_enter Tryd.func58, Tryd.ntmps58
  go_wp2
  rw [Lib.run_to_unsafe w ⟨b, 0, none⟩ Tryd.underlying50 Tryd.underlying102 hj (by rw [hjs]; decide) hsh (Nat.zero_lt_succ 1)]
  simp only [Result.andThen]
  rw [Oper.upon_value]
  go_wp2
  rw [run_callFunc_extern Tryd.func76 (by kernel_rfl) (by kernel_rfl) (by kernel_rfl) (e := Extern.AbiNoEscape.same) (by kernel_rfl)]
  rw [Lib.run_noEscape]
  simp only [Result.andThen]
  rw [Oper.upon_value]
  go_wp2
  rw [Lib.run_from_unsafe w ⟨b, 0, none⟩ Tryd.underlying102 Tryd.underlying50 hj hsh Tryd.liesBuilder]
  simp only [Result.andThen]
  rw [Oper.upon_value]
  go_wp2
  go_end0
  exact ⟨rfl, rfl⟩

/-- The builder in block b holds the bytes l; what the call owns lies in blocks from B on. -/
abbrev Bld (w : World) (B b : Nat) (l : List UInt8) : Prop := Lib.IsBuilderF 52 5 B b (Lib.byteCells l) w
abbrev Kept (b : Nat) (w w' : World) : Prop := Lib.OthersKept 5 (some b) w w'

theorem copyCheck_any (B b : Nat) (bs : List Value) (w : World) (h : Lib.IsBuilderF 52 5 B b bs w) :
    Calls Tryd.prog 58 #[.pointer (some ⟨b, 0, none⟩)] w fun e w' => e = .returned (.tuple #[]) ∧ Lib.BuilderAtF 52 5 B b (.pointer (some ⟨b, 0, none⟩)) bs w' ∧ Below B w w' ∧ Kept b w w' := by
  rcases h with h | h
  · refine (copyCheck_fresh b w h.cell0 h.shape h.frozen0).mono ?_
    rintro e w' ⟨rfl, rfl⟩
    exact ⟨rfl, h.used _, (Below.refl B w).setCell (p := ⟨b, 0, none⟩) h.1 _, (Lib.OthersKept.refl _ _ w).setCell ⟨b, 0, none⟩ rfl _⟩
  · refine (copyCheck_used b w h.cell0).mono ?_
    rintro e w' ⟨rfl, rfl⟩
    exact ⟨rfl, h, Below.refl B _, Lib.OthersKept.refl _ _ _⟩

theorem heap_lt {w : World} {b : Nat} {o : Obj} (h : w.heap[b]? = some o) : b < w.heap.size := (Array.getElem?_eq_some_iff.1 h).1

set_option maxHeartbeats 2000000 in
set_option maxRecDepth 100000 in
theorem writeByte_any (B b : Nat) (l : List UInt8) (x : UInt8) (c : Int) (hc : c = (x.toNat : Int)) (w : World) (h : Bld w B b l) (hlen : l.length ≤ 1000000000) (hBw : B ≤ w.heap.size) :
    Calls Tryd.prog 28 #[.pointer (some ⟨b, 0, none⟩), .int .u8 c] w fun e w' => e = .returned .nilIface ∧ Bld w' B b (l ++ [x]) ∧ Below B w w' ∧ Kept b w w' := by
  obtain ⟨i0, hi, hz0, hz1, hz2⟩ := info_parts Tryd.infoByteP
  have hll : (Lib.byteCells l).length = l.length := Lib.byteCells_length l
  have hbc : Lib.byteCells (l ++ [x]) = Lib.byteCells l ++ [.int .u8 c] := by rw [Lib.byteCells_append, hc]; rfl
  have HBC := Lib.hid hbc
  have HLL := Lib.hid hll
  clear hbc hc hll
  go_enter Tryd.func28, Tryd.ntmps28
  go_wp2_with (go_at_call 58; refine (copyCheck_any B b _ _ h).mono ?_)
  rintro e w1 ⟨rfl, h1, hb1, hk1⟩
  obtain ⟨hB, v, hbk, hown, hne⟩ := h1
  have c0 : w1.cell? ⟨b, 0, none⟩ = some (.pointer (some ⟨b, 0, none⟩)) := by rw [Lib.cell_of_heap hbk]; rfl
  have c1 : w1.cell? ⟨b, 1, none⟩ = some v := by rw [Lib.cell_of_heap hbk]; rfl
  have hs1 := hb1.size
  go_wp2_with (at_builtin; refine wpList_append_ownF _ rfl _ _ 39 rfl B 5 i0 (.int .u8 0) 1 1 Tryd.underlying39 hi hz0 hz1 hz2 rfl (by decide) _ _ _ rfl (hown.alloc _) ⟨w1.heap.size, 0, none⟩ 1 1 [.int .u8 c] rfl rfl ?c1 ?c2 ?c3 ?c4 ?c5 ?_)
  case c1 =>
    intro j u hj
    match j, hj with
    | 0, hj => simp at hj; subst hj; simp [Addr.add]
  case c2 => intro u hu; simp at hu; subst hu; rfl
  case c3 => have := HLL.out; unfold maxLen; omega
  case c4 => have := HLL.out; omega
  case c5 => simp; omega
  intro v' w2 hown' hgrow _
  have hlt := heap_lt hbk
  have hb2 : w2.heap[b]? = some (.cells #[.pointer (some ⟨b, 0, none⟩), v] 52 (0, 0)) := by
    rw [hgrow.block b (by simp; omega) (fun e => hne e.symm), Lib.alloc_old w1 _ b hlt]
    exact hbk
  have d0 : w2.cell? ⟨b, 0, none⟩ = some (.pointer (some ⟨b, 0, none⟩)) := by rw [Lib.cell_of_heap hb2]; rfl
  have d1 : w2.cell? ⟨b, 1, none⟩ = some v := by rw [Lib.cell_of_heap hb2]; rfl
  have f1 : w2.frozen? ⟨b, 1, none⟩ = false := Lib.frozen_of_heap hb2 1
  obtain ⟨g, cap, rfl⟩ : ∃ g cap, v' = .slice (some ⟨g, 0, none⟩) ((Lib.byteCells l).length + 1) cap := by
    rcases hown'.2 with ⟨_, h0⟩ | ⟨g, cap, cur, fz, hv, _⟩
    · omega
    · exact ⟨g, cap, hv⟩
  go_wp2
  go_ret
  refine ⟨rfl, .inr ?_, ?_, ((hk1.alloc _).grown hgrow (Lib.ownsRowF_kind (hown.alloc _))).setCell ⟨b, 1, none⟩ rfl _⟩
  · rw [HBC.out]
    exact Lib.BuilderAtF.put (T := 52) (e := 5) hB hb2 (bs' := Lib.byteCells l ++ [.int .u8 c]) (by simpa using hown') (by decide)
  · exact ((hb1.alloc (by omega) _).grown hgrow (by simp; omega) (fun k hk => (hown.lt k hk).1)).setCell (p := ⟨b, 1, none⟩) hB _

set_option maxHeartbeats 2000000 in
set_option maxRecDepth 100000 in
theorem writeString_any (B b : Nat) (l m : List UInt8) (w : World) (h : Bld w B b l) (hlen : l.length ≤ 1000000000) (hlm : m.length ≤ 1000000000) (hBw : B ≤ w.heap.size) :
    Calls Tryd.prog 26 #[.pointer (some ⟨b, 0, none⟩), .string ⟨m.toArray⟩] w fun e w' => (∃ k : Nat, e = .returned (.tuple #[.int .i64 k, .nilIface])) ∧ Bld w' B b (l ++ m) ∧ Below B w w' ∧ Kept b w w' := by
  obtain ⟨i0, hi, hz0, hz1, hz2⟩ := info_parts Tryd.infoByteP
  have hll : (Lib.byteCells l).length = l.length := Lib.byteCells_length l
  have hbc : Lib.byteCells (l ++ m) = Lib.byteCells l ++ Lib.strCells ⟨m.toArray⟩ := Lib.byteCells_append l m
  have hsz : (ByteArray.mk m.toArray).size = m.length := by simp [ByteArray.size]
  have HBC := Lib.hid hbc
  obtain ⟨s, hs⟩ : ∃ s : ByteArray, s = ⟨m.toArray⟩ := ⟨_, rfl⟩
  rw [← hs] at hsz HBC ⊢
  have HLL := Lib.hid hll
  have HSZ := Lib.hid hsz
  clear hbc hs hll hsz
  go_enter Tryd.func26, Tryd.ntmps26
  go_wp2_with (go_at_call 58; refine (copyCheck_any B b _ _ h).mono ?_)
  rintro e w1 ⟨rfl, h1, hb1, hk1⟩
  obtain ⟨hB, v, hbk, hown, hne⟩ := h1
  have c0 : w1.cell? ⟨b, 0, none⟩ = some (.pointer (some ⟨b, 0, none⟩)) := by rw [Lib.cell_of_heap hbk]; rfl
  have c1 : w1.cell? ⟨b, 1, none⟩ = some v := by rw [Lib.cell_of_heap hbk]; rfl
  have hs1 := hb1.size
  go_wp2_with (at_builtin; refine Lib.wpList_append_own_stringF _ rfl _ _ 39 9 rfl B 5 i0 Tryd.underlying39 Tryd.underlying9 hi hz0 hz1 hz2 _ _ _ rfl hown s rfl ?c3 ?c4 ?c5 ?_)
  case c3 => have := HLL.out; have := HSZ.out; unfold maxLen; omega
  case c4 => have := HLL.out; have := HSZ.out; omega
  case c5 => omega
  intro v' w2 hown' hgrow _
  have hlt := heap_lt hbk
  have hb2 : w2.heap[b]? = some (.cells #[.pointer (some ⟨b, 0, none⟩), v] 52 (0, 0)) := by
    rw [hgrow.block b hlt (fun e => hne e.symm)]
    exact hbk
  have d0 : w2.cell? ⟨b, 0, none⟩ = some (.pointer (some ⟨b, 0, none⟩)) := by rw [Lib.cell_of_heap hb2]; rfl
  have d1 : w2.cell? ⟨b, 1, none⟩ = some v := by rw [Lib.cell_of_heap hb2]; rfl
  have f1 : w2.frozen? ⟨b, 1, none⟩ = false := Lib.frozen_of_heap hb2 1
  obtain ⟨ao, n', cap, rfl⟩ : ∃ ao n' cap, v' = .slice ao n' cap := by
    rcases hown'.2 with ⟨hv, _⟩ | ⟨g, cap, cur, fz, hv, _⟩
    · exact ⟨_, _, _, hv⟩
    · exact ⟨_, _, _, hv⟩
  go_wp2
  go_ret2
  refine ⟨⟨s.size, rfl⟩, .inr ?_, ?_, (hk1.grown hgrow (Lib.ownsRowF_kind hown)).setCell ⟨b, 1, none⟩ rfl _⟩
  · rw [HBC.out]
    exact Lib.BuilderAtF.put (T := 52) (e := 5) hB hb2 (bs' := Lib.byteCells l ++ Lib.strCells s) (by simpa [Lib.strCells_length] using hown') (by decide)
  · exact (hb1.grown hgrow (by omega) (fun k hk => (hown.lt k hk).1)).setCell (p := ⟨b, 1, none⟩) hB _

end Go.Proofs.YtebliaclleplgaaDoor

/- Walk: Strands. -/
namespace Go.Proofs.YtebliaclleplgaaDoor
open Go.RowKit

theorem next59 (A B : Option Addr) (ns cs nm cm gd : Nat) (lp : Int) (mate : List Int) (m : Nat → Nat) (w : World) (hd : DB w gd A ns cs B nm cm lp) (hm : RI w B nm mate) (hmm : Mates mate nm m) (hnm : nm ≤ 256) :
    Next w 47 gd (fs m) nm := fun W x hW hx => by
  have hb0 := hd.keep hW
  obtain ⟨d0, d1, d2, dlt⟩ := hb0
  have C := Lib.hid (nextstrand_nat A B ns cs nm cm lp mate m x W (hm.keep hW) hx hmm hnm _ rfl)
  clear hd hm hmm hW
  go_enter Tryd.func47, Tryd.ntmps47
  go_wp2_with (go_at_call 48; ((with_reducible refine C.out.mono ?_); rintro e w1 ⟨rfl, hb1⟩))
  go_ret
  exact ⟨rfl, hb1⟩
theorem asks58 (A B : Option Addr) (ns cs nm cm gd : Nat) (lp : Int) (signs : List Int) (w : World) (hd : DB w gd A ns cs B nm cm lp) (hs : RI w A ns signs) (hnm : nm = 4 * ns) (hns : ns ≤ 64) :
    Asks w 44 #[.pointer (some ⟨gd, 0, none⟩)] (outB signs) nm := fun W x hW hx => by
  show Calls Tryd.prog 44 #[.int .i64 (x : Nat), .pointer (some ⟨gd, 0, none⟩)] W _
  have hb0 := hd.keep hW
  obtain ⟨d0, d1, d2, dlt⟩ := hb0
  have C := Lib.hid (outgoing_any A B ns cs nm cm lp signs x W (hs.keep hW) (by omega) (by omega))
  clear hd hs hW hnm
  go_enter Tryd.func44, Tryd.ntmps44
  go_wp2_with (go_at_call 45; ((with_reducible refine C.out.mono ?_); rintro e w1 ⟨rfl, hb1⟩))
  go_ret
  exact ⟨rfl, hb1⟩


set_option maxHeartbeats 1600000 in
theorem strands_any (A B : Option Addr) (ns cs nm cm : Nat) (lp : Int) (signs mate : List Int) (w : World) (h : DV w A ns B nm signs mate) :
    Calls Tryd.prog 17 #[dval A ns cs B nm cm lp] w (CycsPost w (strandsM signs mate lp)) := by
  have hd := DB.new w A ns cs B nm cm lp
  obtain ⟨d0, d1, d2, dlt⟩ := hd
  have hb0 := below_alloc w (dbox A ns cs B nm cm lp)
  have hls := h.hs.1
  have hlm := h.hm.1
  cases hv : validB signs mate lp with
  | false =>
    have e : strandsM signs mate lp = [] := by simp [strandsM, hv]
    rw [e]
    have CV := Lib.hid ((h.keep hb0).valid cs cm lp false hv)
    clear e hv hls hlm
    go_enter Tryd.func17, Tryd.ntmps17
    go_wp2_with (go_at_call 13; ((with_reducible refine CV.out.mono ?_); rintro e w1 ⟨rfl, hb1⟩))
    go_ret
    exact ⟨_, rfl, OO.nil _ _, below_step hb0 hb1⟩
  | true =>
    have e : strandsM signs mate lp = cycL (fs (matesOf mate)) nm (outB signs) nm := by simp [strandsM, hv, hlm]
    rw [e]
    have CV := Lib.hid ((h.keep hb0).valid cs cm lp true hv)
    obtain ⟨v1, v2, v3, v4⟩ := validB_out hv
    rw [hls, hlm] at v1
    obtain ⟨l1, l2, l3, l4⟩ := limB_out v1
    have HM := Lib.hid (matesOf_mates v3 hlm)
    have HI := Lib.hid (matesOf_invol v3 hlm)
    have HL := Lib.hid l2
    have HD := Lib.hid (DB.new w A ns cs B nm cm lp)
    have CCf : ∀ w1 : World, Below (w.alloc (dbox A ns cs B nm cm lp)).heap.size (w.alloc (dbox A ns cs B nm cm lp)) w1 →
        Hid (Calls Tryd.prog 46 #[.int .i64 (nm : Nat), .func (.func 44) #[] #[.pointer (some ⟨w.heap.size, 0, none⟩)], .func (.func 47) #[] #[.pointer (some ⟨w.heap.size, 0, none⟩)]] w1 (CycsPost w1 (cycL (fs (matesOf mate)) nm (outB signs) nm))) := fun w1 hb1 =>
      cycles_any 47 44 w.heap.size nm #[.pointer (some ⟨w.heap.size, 0, none⟩)] (fs (matesOf mate)) (outB signs) w1 enters59 enters58
        (next59 A B ns cs nm cm w.heap.size lp mate (matesOf mate) w1 (HD.out.keep hb1) (h.hm.keep (below_step hb0 hb1)) HM.out (by have := HL.out; omega)) (asks58 A B ns cs nm cm w.heap.size lp signs w1 (HD.out.keep hb1) (h.hs.keep (below_step hb0 hb1)) HL.out l1) (by have := HI.out; rw [HL.out] at this ⊢; exact this.perm 2) (by have := HL.out; omega)
    clear e hv hls hlm v1 v2 v3 v4 l2
    go_enter Tryd.func17, Tryd.ntmps17
    have hmf : ∀ (fn : Fn) (first cap : Array Value) (w : World), (Instr.makeFunc fn first cap).run Tryd.prog w = .ok (.func fn first cap) w := fun _ _ _ _ => rfl
    go_wp2_with (first
      | (go_at_call 13; ((with_reducible refine CV.out.mono ?_); rintro e w1 ⟨rfl, hb1⟩; have d0' := (hb1.cell (p := ⟨w.heap.size, 0, none⟩) dlt).trans d0; have d1' := (hb1.cell (p := ⟨w.heap.size, 1, none⟩) dlt).trans d1; have d2' := (hb1.cell (p := ⟨w.heap.size, 2, none⟩) dlt).trans d2))
      | (go_at_call 46; ((with_reducible refine (CCf _ hb1).out.mono ?_); rintro e w2 ⟨v, rfl, hov, hb2⟩)))
    go_ret
    have hb01 := below_step hb0 hb1
    exact ⟨_, rfl, hov.mono hb01.size, below_step hb01 hb2⟩

end Go.Proofs.YtebliaclleplgaaDoor

/- Plain: the labels of the half-edges of a diagram, its text, its binary form. -/
namespace Go.Proofs.YtebliaclleplgaaDoor
open Go.RowKit

/-- The labels behind k places of the sequence. -/
def lbK (pM : Nat → Nat) (q : List Int) : Nat → Nat → Nat
  | 0 => fun _ => 0
  | k + 1 => upd (upd (lbK pM q k) (q.getD k 0).toNat (k + 1)) (pM (q.getD k 0).toNat) (k + 1)
theorem lbK_le (pM : Nat → Nat) (q : List Int) : ∀ k x, lbK pM q k x ≤ k
  | 0, _ => Nat.le_refl _
  | k + 1, x => by
    show upd (upd (lbK pM q k) (q.getD k 0).toNat (k + 1)) (pM (q.getD k 0).toNat) (k + 1) x ≤ k + 1
    unfold upd
    have := lbK_le pM q k x
    split
    · omega
    · split <;> omega
/-- The outgoing half-edges along the strands. -/
def seqM (s m : List Int) (lp : Int) : List Int := (strandsM s m lp).flatten
def lbM (s m : List Int) (lp : Int) : Nat → Nat := lbK (matesOf m) (seqM s m lp) (seqM s m lp).length

def lb4 (L : Nat → Nat) (c k : Nat) : List UInt8 := (List.range k).flatMap fun j => 32 :: Lib.decDigits (L (4 * c + j))
def sgT (x : Int) : List UInt8 := [if x = 1 then 43 else 45]
def rowT (s : List Int) (L : Nat → Nat) (c : Nat) : List UInt8 := sgT (s.getD c 0) ++ lb4 L c 4 ++ [10]
def rowsT (s : List Int) (L : Nat → Nat) (k : Nat) : List UInt8 := (List.range k).flatMap (rowT s L)
def lpT : List UInt8 := [108, 111, 111, 112, 115, 32]
/-- The text of a diagram with labels L. -/
def pnT (s : List Int) (L : Nat → Nat) (lp : Int) : List UInt8 := rowsT s L s.length ++ (lpT ++ Lib.decDigits lp.toNat ++ [10])
theorem lb4_succ (L : Nat → Nat) (c k : Nat) : lb4 L c (k + 1) = lb4 L c k ++ (32 :: Lib.decDigits (L (4 * c + k))) := by
  unfold lb4; rw [List.range_succ, List.flatMap_append]; simp
theorem rowsT_succ (s : List Int) (L : Nat → Nat) (k : Nat) : rowsT s L (k + 1) = rowsT s L k ++ rowT s L k := by
  unfold rowsT; rw [List.range_succ, List.flatMap_append]; simp
theorem dec_three (c : Nat) (h : c < 1000) : (Lib.decDigits c).length ≤ 3 := by
  unfold Lib.decDigits
  split
  · simp
  · unfold Lib.decDigits
    split
    · simp
    · unfold Lib.decDigits
      split
      · simp
      · omega
theorem lb4_len (L : Nat → Nat) (c : Nat) (h : ∀ j, L j < 1000) : ∀ k, (lb4 L c k).length ≤ 4 * k
  | 0 => Nat.le_refl _
  | k + 1 => by
    have := lb4_len L c h k
    have := dec_three _ (h (4 * c + k))
    rw [lb4_succ, List.length_append, List.length_cons]; omega
theorem rowT_len (s : List Int) (L : Nat → Nat) (c : Nat) (h : ∀ j, L j < 1000) : (rowT s L c).length ≤ 18 := by
  have := lb4_len L c h 4
  unfold rowT sgT
  simp only [List.length_append, List.length_cons, List.length_nil]; omega
theorem rowsT_len (s : List Int) (L : Nat → Nat) (h : ∀ j, L j < 1000) : ∀ k, (rowsT s L k).length ≤ 18 * k
  | 0 => Nat.le_refl _
  | k + 1 => by
    have := rowsT_len s L h k
    have := rowT_len s L k h
    rw [rowsT_succ, List.length_append]; omega

/-! The bits of the signs. -/
def btK (s : List Int) : Nat → Nat → Nat
  | 0 => fun _ => 0
  | k + 1 => if s.getD k 0 = 1 then upd (btK s k) (k / 8) (btK s k (k / 8) + 2 ^ (k % 8)) else btK s k
theorem btK_inv (s : List Int) : ∀ k, (∀ i, k / 8 < i → btK s k i = 0) ∧ btK s k (k / 8) < 2 ^ (k % 8) ∧ ∀ i, btK s k i < 256
  | 0 => ⟨fun _ _ => rfl, Nat.one_pos, fun _ => (by decide : 0 < 256)⟩
  | k + 1 => by
    obtain ⟨h1, h2, h3⟩ := btK_inv s k
    have hp : 2 ^ (k % 8) + 2 ^ (k % 8) = 2 ^ (k % 8 + 1) := by rw [Nat.pow_succ]; omega
    have hp8 : 2 ^ (k % 8 + 1) ≤ 2 ^ 8 := Nat.pow_le_pow_right (by decide) (by omega)
    have key : ∀ v : Nat → Nat, (∀ i, i ≠ k / 8 → v i = btK s k i) → v (k / 8) < 2 ^ (k % 8 + 1) → (∀ i, (k + 1) / 8 < i → v i = 0) ∧ v ((k + 1) / 8) < 2 ^ ((k + 1) % 8) ∧ ∀ i, v i < 256 := fun v e1 e2 => by
      refine ⟨fun i hi => by rw [e1 i (by omega)]; exact h1 i (by omega), ?_, fun i => ?_⟩
      · by_cases q : (k + 1) % 8 = 0
        · rw [e1 _ (by omega), h1 _ (by omega)]; exact Nat.two_pow_pos _
        · rw [show (k + 1) / 8 = k / 8 by omega, show (k + 1) % 8 = k % 8 + 1 by omega]; exact e2
      · by_cases q : i = k / 8
        · rw [q]; omega
        · rw [e1 i q]; exact h3 i
    show (∀ i, (k + 1) / 8 < i → (if s.getD k 0 = 1 then upd (btK s k) (k / 8) (btK s k (k / 8) + 2 ^ (k % 8)) else btK s k) i = 0) ∧ (if s.getD k 0 = 1 then upd (btK s k) (k / 8) (btK s k (k / 8) + 2 ^ (k % 8)) else btK s k) ((k + 1) / 8) < 2 ^ ((k + 1) % 8) ∧ ∀ i, (if s.getD k 0 = 1 then upd (btK s k) (k / 8) (btK s k (k / 8) + 2 ^ (k % 8)) else btK s k) i < 256
    split
    · exact key _ (fun i hi => upd_other _ _ _ _ hi) (by rw [upd_same]; omega)
    · exact key _ (fun i _ => rfl) (by omega)
/-- Later crossings do not change a byte that is full. -/
theorem btK_full (s : List Int) (i : Nat) : ∀ k d, 8 * i + 8 ≤ k → btK s (k + d) i = btK s k i
  | _, 0, _ => rfl
  | k, d + 1, h => by
    rw [← btK_full s i k d h]
    show (if s.getD (k + d) 0 = 1 then upd (btK s (k + d)) ((k + d) / 8) (btK s (k + d) ((k + d) / 8) + 2 ^ ((k + d) % 8)) else btK s (k + d)) i = _
    split
    · rw [upd_other _ _ _ _ (by omega)]
    · rfl
theorem btK_or (s : List Int) (k : Nat) : btK s k (k / 8) ||| 2 ^ (k % 8) = btK s k (k / 8) + 2 ^ (k % 8) := by
  have := Nat.two_pow_add_eq_or_of_lt (btK_inv s k).2.1 1
  rw [Nat.mul_one] at this
  rw [Nat.or_comm, ← this, Nat.add_comm]
/-- The bytes of the signs, the mates of the outgoing half-edges, the binary form. -/
def btL (s : List Int) (n : Nat) : List Int := (List.range ((n + 7) / 8)).map fun i => (btK s n i : Int)
def mtL (s : List Int) (pM : Nat → Nat) (k : Nat) : List Int := ((List.range k).filter (outB s)).map fun h => (pM h : Int)
def enL (s : List Int) (pM : Nat → Nat) (lp : Int) (k : Nat) : List Int := (s.length : Int) :: lp :: (btL s s.length ++ mtL s pM k)
theorem mtL_succ (s : List Int) (pM : Nat → Nat) (k : Nat) : mtL s pM (k + 1) = if outB s k = true then mtL s pM k ++ [(pM k : Int)] else mtL s pM k := by
  unfold mtL
  rw [List.range_succ, List.filter_append, List.map_append]
  cases h : outB s k <;> simp [h]
theorem mtL_le (s : List Int) (pM : Nat → Nat) (k : Nat) : (mtL s pM k).length ≤ k := by
  unfold mtL; rw [List.length_map]; exact Nat.le_trans (List.length_filter_le _ _) (by simp)
theorem btL_len (s : List Int) (n : Nat) : (btL s n).length = (n + 7) / 8 := by simp [btL]
theorem enL_succ (s : List Int) (pM : Nat → Nat) (lp : Int) (k : Nat) : enL s pM lp (k + 1) = if outB s k = true then enL s pM lp k ++ [(pM k : Int)] else enL s pM lp k := by
  unfold enL
  rw [mtL_succ]
  split
  · simp
  · rfl

end Go.Proofs.YtebliaclleplgaaDoor

/- Walks: isOut, bytesOfSigns, bitsOf. -/
namespace Go.Proofs.YtebliaclleplgaaDoor
open Go.RowKit

set_option maxHeartbeats 800000 in
theorem isOut_any (A : Option Addr) (ns cs : Nat) (signs : List Int) (h : Nat) (w : World) (hs : RI w A ns signs) (hh : h / 4 < ns) (hns : ns ≤ 1000000) :
    Calls Tryd.prog 51 #[.slice A ns cs, .int .i64 h] w fun e w' => e = .returned (.bool (outB signs h)) ∧ w = w' := by
  obtain ⟨b, off, rfl, hb, hc⟩ := hs.2 (by omega)
  have hcell : w.cell? ⟨b, off + h / 4, none⟩ = some (.int .i64 (signs.getD (h / 4) 0)) := hc _ hh
  generalize hx : signs.getD (h / 4) 0 = x at hcell
  clear hs hc
  rcases mod4_cases h with h4 | h4 | h4 | h4
  · have h4' : (h : Int) % 4 = 0 := by omega
    have e : outB signs h = false := by simp [outB, h4]
    rw [e]; clear e h4 hx
    go_enter Tryd.func51, Tryd.ntmps51
    go_wp2
    go_ret
    exact ⟨rfl, rfl⟩
  · have h4' : (h : Int) % 4 = 1 := by omega
    have e : outB signs h = (x == 1) := by simp only [outB, h4, hx]; rfl
    rw [e]; clear e h4 hx
    go_enter Tryd.func51, Tryd.ntmps51
    go_wp2
    go_ret
    exact ⟨rfl, rfl⟩
  · have h4' : (h : Int) % 4 = 2 := by omega
    have e : outB signs h = true := by simp [outB, h4]
    rw [e]; clear e h4 hx
    go_enter Tryd.func51, Tryd.ntmps51
    go_wp2
    go_ret
    exact ⟨rfl, rfl⟩
  · have h4' : (h : Int) % 4 = 3 := by omega
    have e : outB signs h = (x == -1) := by simp only [outB, h4, hx]; rfl
    rw [e]; clear e h4 hx
    go_enter Tryd.func51, Tryd.ntmps51
    go_wp2
    go_ret
    exact ⟨rfl, rfl⟩

theorem bytesOf_any (n : Nat) (hn : n ≤ 1000) (w : World) : Calls Tryd.prog 52 #[.int .i64 (n : Nat)] w fun e w' => e = .returned (.int .i64 ((n + 7) / 8 : Nat)) ∧ w = w' := by
  have h0 : (0 : Int) ≤ (n : Int) := Int.natCast_nonneg _
  have h1 : (n : Int) ≤ 1000 := by omega
  obtain ⟨q, hq⟩ : ∃ q, (n + 7) / 8 = q := ⟨_, rfl⟩
  have h2 : IntKind.i64.wrap ((n : Int) + 7) = (n : Int) + 7 := IntWalk.i64_in _ (by omega)
  have h3 : ((n : Int) + 7) / 8 = (q : Int) := by omega
  rw [hq]
  clear hq
  go_enter Tryd.func52, Tryd.ntmps52
  go_wp2
  go_ret
  exact ⟨ret_int (by omega), rfl⟩
abbrev uv (L : Nat → Nat) : Nat → Value := fun i => .int .u8 (L i : Nat)
theorem Arr.setu {w : World} {g n : Nat} {t : TypeId} {L : Nat → Nat} (h : Arr w g t n (uv L)) (j v : Nat) : Arr (w.setCell ⟨g, j, none⟩ (.int .u8 (v : Nat))) g t n (uv (upd L j v)) :=
  (h.set j _).congr fun i _ => by
    unfold upd uv
    by_cases e : i = j <;> simp [e]

set_option maxHeartbeats 3200000 in
set_option maxRecDepth 100000 in
theorem bitsOf_any (A : Option Addr) (n c : Nat) (s : List Int) (w : World) (hs : RI w A n s) (hn : n ≤ 64) :
    Calls Tryd.prog 50 #[.slice A n c] w fun e w' => e = .returned (.slice (some ⟨w.heap.size, 0, none⟩) ((n + 7) / 8) ((n + 7) / 8)) ∧ Arr w' w.heap.size 5 ((n + 7) / 8) (uv (btK s n)) ∧ Below w.heap.size w w' := by
  obtain ⟨nb, hnb⟩ : ∃ nb, (n + 7) / 8 = nb := ⟨_, rfl⟩
  have CB := fun W => Lib.hid (bytesOf_any n (by omega) W)
  simp only [hnb] at CB ⊢
  have hmk := fun W => make_one (P := Tryd.prog) Tryd.underlying39 Tryd.infoByteP rfl nb (by omega) (by omega) W
  have hb0 := below_alloc w (.cells (cellsN nb fun _ => .int .u8 0) 5)
  have HA0 : Hid (Arr (w.alloc (.cells (cellsN nb fun _ => .int .u8 0) 5)) w.heap.size 5 nb (uv (btK s 0))) := Lib.hid ((Arr.new w nb 5 fun _ => .int .u8 0).congr fun _ _ => rfl)
  have HS := Lib.hid hs
  have HNB := Lib.hid hnb
  clear hs hnb
  go_enter Tryd.func50, Tryd.ntmps50
  go_wp2_with ((go_at_call 52; ((with_reducible refine (CB _).out.mono ?_); rintro e w1 ⟨rfl, rfl⟩)))
  generalize w.alloc (.cells (cellsN nb fun _ => .int .u8 0) 5) = wA at *
  go_loopw [4, 5, 12] (fun _ _ i wr => ∃ k : Nat, k ≤ n ∧ i = .int .i64 k ∧ Below w.heap.size w wr ∧ Arr wr w.heap.size 5 nb (uv (btK s k))) (fun _ _ i _ => n - (intOf i).toNat)
  case atStart => exact ⟨0, by omega, rfl, hb0, HA0.out⟩
  case round =>
    obtain ⟨k, hk, rfl, hbr, har⟩ := hrel
    have hk0 : (0 : Int) ≤ (k : Int) := Int.natCast_nonneg _
    by_cases hlt : k < n
    · obtain ⟨b, o, rfl, hb, hc⟩ := HS.out.2 (by omega)
      have hcell := (hbr.cell (p := ⟨b, o + k, none⟩) hb).trans (hc k hlt)
      have hk1 : (k : Int) < (n : Int) := by omega
      have hstep : btK s (k + 1) = if s.getD k 0 = 1 then upd (btK s k) (k / 8) (btK s k (k / 8) + 2 ^ (k % 8)) else btK s k := rfl
      by_cases h1 : s.getD k 0 = 1
      · rw [if_pos h1] at hstep
        rw [h1] at hcell
        have HST := Lib.hid hstep
        obtain ⟨q, hq⟩ : ∃ q, k / 8 = q := ⟨_, rfl⟩
        obtain ⟨r, hr⟩ : ∃ r, k % 8 = r := ⟨_, rfl⟩
        have hor := btK_or s k
        have hq8 : q < nb := by have := HNB.out; omega
        have hr8 : r < 8 := by omega
        have hx := (btK_inv s k).2.2 q
        rw [hq, hr] at hor HST
        have c1 := har.cell q hq8
        have f1 := har.frozen q
        obtain ⟨x, hxx⟩ : ∃ x, btK s k q = x := ⟨_, rfl⟩
        have hp : 2 ^ r ≤ 128 := Nat.le_trans (Nat.pow_le_pow_right (by decide) (by omega : r ≤ 7)) (by decide)
        obtain ⟨y, hy⟩ : ∃ y, 2 ^ r = y := ⟨_, rfl⟩
        have hbor := u8_or_nat x y (by omega) (by omega)
        rw [hxx, hy] at hor
        rw [hor] at hbor
        rw [hxx, hy] at HST
        have HAR := Lib.hid har
        have q0 : (0 : Int) ≤ (q : Int) := Int.natCast_nonneg _
        have q1 : (q : Int) < (nb : Int) := by omega
        have e1 : (k : Int) / 8 = (q : Int) := by omega
        have e2 : (k : Int) % 8 = (r : Int) := by omega
        have r0 : (0 : Int) ≤ (r : Int) := Int.natCast_nonneg _
        have r1 : (r : Int) < 8 := by omega
        have c2 : wr.cell? ⟨w.heap.size, q, none⟩ = some (.int .u8 (x : Nat)) := by rw [c1]; show some (Value.int .u8 ((btK s k q : Nat) : Int)) = _; rw [hxx]
        have e3 : ((2 : Int) ^ r) = (y : Int) := by rw [← hy]; norm_cast
        have e4 : IntKind.u8.wrap (y : Int) = (y : Int) := by rw [IntKind.wrap_u8']; omega
        clear hc har hq hr hor hx c1 hxx hstep h1
        go_upto_region 6 with fail
        have HA5 : Hid (Arr (wr.setCell ⟨w.heap.size, q, none⟩ (.int .u8 ((x : Int) + (y : Int)))).drew w.heap.size 5 nb (uv (btK s (k + 1)))) := Lib.hid (by
          rw [HST.out, show (x : Int) + (y : Int) = ((x + y : Nat) : Int) by omega]
          exact (HAR.out.setu q (x + y)).drew)
        have HB5 : Hid (Below w.heap.size w (wr.setCell ⟨w.heap.size, q, none⟩ (.int .u8 ((x : Int) + (y : Int)))).drew) := Lib.hid (below_set hbr (Nat.le_refl _) _).drew
        go_region
        generalize (wr.setCell ⟨w.heap.size, q, none⟩ (.int .u8 ((x : Int) + (y : Int)))).drew = w5 at *
        go_wp2
        go_roundw
        case rel => exact ⟨k + 1, by omega, by go_num, HB5.out, HA5.out⟩
        case measure => simp [intOf]; omega
      · rw [if_neg h1] at hstep
        have HST := Lib.hid hstep
        have HAR := Lib.hid har
        have h1' : (s.getD k 0 == 1) = false := by simpa using h1
        obtain ⟨sg, hsg⟩ : ∃ sg, s.getD k 0 = sg := ⟨_, rfl⟩
        rw [hsg] at hcell h1'
        clear hc har hstep h1 hsg
        go_wp2
        go_roundw
        case rel => exact ⟨k + 1, by omega, by go_num, hbr, by rw [HST.out]; exact HAR.out⟩
        case measure => simp [intOf]; omega
    · obtain rfl : n = k := by omega
      have HAR := Lib.hid har
      clear har
      go_wp2
      go_ret
      exact ⟨rfl, HAR.out, hbr⟩

end Go.Proofs.YtebliaclleplgaaDoor

/- Plain mathematics: each number bears the index of the row that it lies in. -/
namespace Go.Proofs.YtebliaclleplgaaDoor

/-- The first j of a row get the colour i. -/
def hueRow (xs : List Int) (i : Nat) : Nat → (Nat → Nat) → Nat → Nat
  | 0, V => V
  | j + 1, V => fun x => if (x : Int) = xs.getD j 0 then i else hueRow xs i j V x
def hue (xss : List (List Int)) : Nat → Nat → Nat
  | 0 => fun _ => 0
  | i + 1 => hueRow (xss.getD i []) i (xss.getD i []).length (hue xss i)
theorem hueRow_in {xs : List Int} {i j q x : Nat} {V : Nat → Nat} (hq : q < j) (e : xs.getD q 0 = x) : hueRow xs i j V x = i := by
  induction j with
  | zero => omega
  | succ j ih =>
    show (if (x : Int) = xs.getD j 0 then i else hueRow xs i j V x) = i
    by_cases h : q = j
    · subst h; rw [e]; simp
    · split
      · rfl
      · exact ih (by omega)
theorem hueRow_out {xs : List Int} {i j x : Nat} {V : Nat → Nat} (hx : ∀ q, q < j → xs.getD q 0 ≠ x) : hueRow xs i j V x = V x := by
  induction j with
  | zero => rfl
  | succ j ih =>
    show (if (x : Int) = xs.getD j 0 then i else hueRow xs i j V x) = V x
    rw [if_neg (fun e => hx j (by omega) e.symm)]
    exact ih fun q hq => hx q (by omega)
theorem getD_mem_int {xs : List Int} {q : Nat} (hq : q < xs.length) : xs.getD q 0 ∈ xs := by
  have e : xs.getD q 0 = xs[q] := by simp [List.getD, hq]
  rw [e]; exact List.getElem_mem hq
theorem hue_done {xss : List (List Int)} {a x : Nat} (hx : (x : Int) ∈ xss.getD a []) (hu : ∀ b, b < xss.length → b ≠ a → (x : Int) ∉ xss.getD b []) {i : Nat} (ha : a < i) (hi : i ≤ xss.length) : hue xss i x = a := by
  induction i with
  | zero => omega
  | succ i ih =>
    show hueRow (xss.getD i []) i _ (hue xss i) x = a
    by_cases e : a = i
    · subst e
      obtain ⟨q, hq, k⟩ := List.getElem_of_mem hx
      exact hueRow_in (q := q) hq (by have e : (xss.getD a []).getD q 0 = (xss.getD a [])[q] := by generalize xss.getD a [] = ys at hq ⊢; simp [List.getD, hq]
                                      rw [e, k])
    · rw [hueRow_out fun q hq k => hu i (by omega) (Ne.symm e) (by rw [← k]; exact getD_mem_int hq)]
      exact ih (by omega) (by omega)

theorem mem_memb {F : Nat → Nat} {n l x : Nat} : (x : Int) ∈ memb F n l ↔ x < n ∧ F x = l := by
  unfold memb
  simp only [List.mem_map, List.mem_filter, List.mem_range, beq_iff_eq]
  constructor
  · rintro ⟨b, ⟨h1, h2⟩, e⟩
    have : b = x := by omega
    subst this; exact ⟨h1, h2⟩
  · rintro ⟨h1, h2⟩
    exact ⟨x, ⟨h1, h2⟩, rfl⟩
theorem mem_memb_nat {F : Nat → Nat} {n l : Nat} {y : Int} (h : y ∈ memb F n l) : ∃ x : Nat, y = x ∧ x < n ∧ F x = l := by
  unfold memb at h
  obtain ⟨b, hb, e⟩ := List.mem_map.1 h
  have hb' := List.mem_filter.1 hb
  exact ⟨b, e.symm, List.mem_range.1 hb'.1, by simpa using hb'.2⟩
theorem roots_nodup (F : Nat → Nat) (n : Nat) : (roots F n).Nodup := List.Pairwise.filter _ List.nodup_range
theorem graphL_get (F : Nat → Nat) (n : Nat) {a : Nat} (ha : a < (graphL F n).length) : ∃ h : a < (roots F n).length, (graphL F n).getD a [] = memb F n (roots F n)[a] := by
  have h : a < (roots F n).length := by rw [← graphL_length]; exact ha
  exact ⟨h, by unfold graphL; simp [List.getD, h]⟩
/-- All painted: numbers of one component bear one colour. -/
theorem hue_same {F : Nat → Nat} {n x y : Nat} (hle : ∀ b, F b ≤ b) (hid : ∀ b, F (F b) = F b) (hx : x < n) (hy : y < n) (e : F x = F y) : hue (graphL F n) (graphL F n).length x = hue (graphL F n) (graphL F n).length y := by
  have hm : F x ∈ roots F n := by
    unfold roots
    rw [List.mem_filter, List.mem_range]
    exact ⟨by have := hle x; omega, by simp [hid]⟩
  obtain ⟨a, ha, ea⟩ := List.getElem_of_mem hm
  have hal : a < (graphL F n).length := by rw [graphL_length]; exact ha
  obtain ⟨h1, h2⟩ := graphL_get F n hal
  have key : ∀ z, z < n → F z = F x → hue (graphL F n) (graphL F n).length z = a := fun z hz ez => by
    refine hue_done (by rw [h2]; exact mem_memb.2 ⟨hz, by rw [ez, ea]⟩) (fun b hb hne hin => ?_) hal (Nat.le_refl _)
    obtain ⟨g1, g2⟩ := graphL_get F n hb
    rw [g2] at hin
    obtain ⟨_, k⟩ := mem_memb.1 hin
    rw [ez, ← ea] at k
    exact hne ((List.getElem_inj (roots_nodup F n)).1 k).symm
  rw [key x hx rfl, key y hy e.symm]

/-- Two of each four are wanted. -/
theorem count_two (p : Nat → Bool) (n : Nat) (h : ∀ c, c < n → (List.range 4).countP (fun s => p (4 * c + s)) = 2) : (List.range (4 * n)).countP p = 2 * n := by
  induction n with
  | zero => rfl
  | succ n ih =>
    have h1 := ih fun c hc => h c (by omega)
    have h2 := h n (by omega)
    rw [show 4 * (n + 1) = 4 * n + 1 + 1 + 1 + 1 by omega, List.range_succ, List.range_succ, List.range_succ, List.range_succ]
    simp only [List.countP_append, List.countP_cons, List.countP_nil]
    simp only [List.range_succ, List.range_zero, List.nil_append, List.countP_append, List.countP_cons, List.countP_nil, Nat.add_zero] at h2
    rw [show 4 * n + 1 + 1 = 4 * n + 2 by omega, show 4 * n + 2 + 1 = 4 * n + 3 by omega]
    omega

end Go.Proofs.YtebliaclleplgaaDoor

/- Plain facts of a valid diagram. -/
namespace Go.Proofs.YtebliaclleplgaaDoor
open Go.RowKit

theorem bk_data {signs mate : List Int} {lp : Int} (hv : validB signs mate lp = true) : ∃ n, signs.length = n ∧ mate.length = 4 * n ∧ Invol (matesOf mate) (4 * n) ∧ (∀ x, x < 4 * n → matesOf mate x ≠ x) ∧
    sphB (ufLab (matesOf mate) (4 * n)) (fun x => trn (matesOf mate x) 3) (4 * n) n = true := by
  obtain ⟨v1, v2, v3, v4⟩ := validB_out hv
  obtain ⟨l1, l2, l3, l4⟩ := limB_out v1
  have hi := matesOf_invol v3 l2
  refine ⟨signs.length, rfl, l2, hi, fun x hx e => ?_, ?_⟩
  · obtain ⟨m, h1, h2, h3, h4⟩ := pOK_out ((pairB_iff _ _).1 v3 x (by omega)) l2
    have e2 : matesOf mate x = m := by unfold matesOf; rw [h1]; simp
    rw [e2] at e
    rw [e] at h4
    exact h4 rfl
  · unfold sphM at v4
    rw [l2] at v4
    exact v4
theorem bk_count {s : List Int} {n : Nat} (h : sgnsB s = true) (hl : s.length = n) : (List.range (4 * n)).countP (outB s) = 2 * n := by
  refine count_two _ n fun c hc => ?_
  have hg := (sgnsB_iff _).1 h c (by omega)
  have e0 : outB s (4 * c) = false := by unfold outB; rw [show 4 * c % 4 = 0 by omega]; simp
  have e1 : outB s (4 * c + 1) = (s.getD c 0 == 1) := by unfold outB; rw [show (4 * c + 1) % 4 = 1 by omega, show (4 * c + 1) / 4 = c by omega]; simp
  have e2 : outB s (4 * c + 2) = true := by unfold outB; rw [show (4 * c + 2) % 4 = 2 by omega]; simp
  have e3 : outB s (4 * c + 3) = (s.getD c 0 == -1) := by unfold outB; rw [show (4 * c + 3) % 4 = 3 by omega, show (4 * c + 3) / 4 = c by omega]; simp
  have hr : List.range 4 = [0, 1, 2, 3] := rfl
  rw [hr]
  simp only [List.countP_cons, List.countP_nil, Nat.add_zero, e0, e1, e2, e3]
  unfold sgB at hg
  simp only [Bool.or_eq_true, beq_iff_eq] at hg
  rcases hg with e | e <;> rw [e] <;> rfl

theorem trn_two (h : Nat) : trn (trn h 2) 2 = h := by unfold trn; omega
structure BkF (s m : List Int) (lp : Int) : Prop where
  lm : m.length = 4 * s.length
  le : s.length ≤ 64
  p : Perm (fs (matesOf m)) m.length
  c : ClosedN (fs (matesOf m)) m.length (outB s)
  i : Invol (matesOf m) m.length
  sg : sgnsB s = true
  pr : pairB s m = true
  lim : limB s.length m.length lp = true
theorem bk_facts {s m : List Int} {lp : Int} (hv : validB s m lp = true) : BkF s m lp := by
  obtain ⟨v1, v2, v3, v4⟩ := validB_out hv
  obtain ⟨l1, l2, l3, l4⟩ := limB_out v1
  have hi : Invol (matesOf m) m.length := matesOf_invol v3 rfl
  refine ⟨l2, l1, ?_, fun h hh ho => out_closed v2 v3 rfl rfl l2 h hh ho, hi, v2, v3, v1⟩
  have := hi
  rw [l2] at this ⊢
  exact this.perm 2

end Go.Proofs.YtebliaclleplgaaDoor

/- Plain: the outgoing half-edges along the strands, each once. -/
namespace Go.Proofs.YtebliaclleplgaaDoor
open Go.RowKit

theorem seq_flat {s m : List Int} {lp : Int} (hv : validB s m lp = true) : seqM s m lp = (flatN (fs (matesOf m)) m.length (outB s)).map (fun x : Nat => (x : Int)) := by
  unfold seqM strandsM
  rw [if_pos hv, cycL_reprs]
  unfold flatN
  rw [List.map_flatten, List.map_map]
  congr 1
  refine List.map_congr_left fun h _ => ?_
  simp [itl, cyc, List.map_map, Function.comp_def]
theorem seq_len {s m : List Int} {lp : Int} (hv : validB s m lp = true) : (seqM s m lp).length = 2 * s.length := by
  have F := bk_facts hv
  rw [seq_flat hv, List.length_map, flatN_length, sum_per F.p F.c, F.lm, bk_count F.sg rfl]
theorem seq_at {s m : List Int} {lp : Int} (hv : validB s m lp = true) {k : Nat} (hk : k < 2 * s.length) : ∃ h : Nat, (seqM s m lp).getD k 0 = (h : Int) ∧ h < m.length ∧ outB s h = true := by
  have F := bk_facts hv
  have hl := seq_len hv
  rw [seq_flat hv, List.length_map] at hl
  have hk' : k < (flatN (fs (matesOf m)) m.length (outB s)).length := by omega
  refine ⟨(flatN (fs (matesOf m)) m.length (outB s))[k], by rw [seq_flat hv]; simp [List.getD, hk'], ?_⟩
  have hm := (flatN_perm F.p F.c).mem_iff.1 (List.getElem_mem hk')
  rw [List.mem_filter, List.mem_range] at hm
  exact hm
theorem strands_ne {s m : List Int} {lp : Int} {j : Nat} (hj : j < (strandsM s m lp).length) : 0 < ((strandsM s m lp).getD j []).length := by
  unfold strandsM at hj ⊢
  split at hj
  · next hv =>
    rw [if_pos hv]
    rw [cycL_reprs] at hj ⊢
    simp only [List.length_map] at hj
    simp only [List.getD, List.getElem?_map, List.getElem?_eq_getElem hj, Option.map_some, Option.getD_some]
    rw [itl_length]
    exact per_pos _ _ _
  · simp at hj

end Go.Proofs.YtebliaclleplgaaDoor

/- Opening a diagram that comes in, and shutting a law's call. -/
namespace Go.Proofs.YtebliaclleplgaaDoor
open Go.ChangeShapes Go.WideShapes Go.ChangeAt Go.RowKit Go.Joins

theorem Tryd.own : ownKnob Tryd.prog.godebug = none := by kernel_rfl
theorem Tryd.laidOut : laidOutB Tryd.prog = true := by kernel_rfl
theorem Tryd.cellsI : Tryd.prog.cellsOf 3 = 1 := by kernel_rfl
theorem Tryd.cellsD : Tryd.prog.cellsOf 24 = 3 := by kernel_rfl

def inI (x : Int) : Prop := -9223372036854775808 ≤ x ∧ x ≤ 9223372036854775807
theorem inI_of_wf {x : Int} (h : (Lit.int .i64 x).wf = true) : inI x := by
  have h1 : IntKind.i64.min = -9223372036854775808 := rfl
  have h2 : IntKind.i64.max = 9223372036854775807 := rfl
  simp only [Lit.wf, Bool.and_eq_true, decide_eq_true_eq] at h
  unfold inI; omega

section
variable {H : Type} {enc : TypeId × Value → H} {W : World}

set_option maxRecDepth 100000 in
/-- A slice of ints that comes in reads as a list. -/
theorem open_ri {fuel : Nat} {v : Value} {x : DataW H × List MemPlace} (h : DataW.trod enc Tryd.prog W 0 (fun _ => true) true fuel 22 [v] = some x) :
    ∃ A n c xs, v = .slice A n c ∧ RI W A n xs ∧ n ≤ 9223372036854775807 ∧ ∀ y ∈ xs, inI y := by
  rcases open_ints Tryd.underlying22 Tryd.underlying3 Tryd.cellsI h with ⟨hcs, _⟩ | ⟨a, len, cap, zs, hcs, _, hl, hm, hz, _, hcell, hwf⟩
  · injection hcs with hcs _
    exact ⟨none, 0, 0, [], hcs, RI.nil _ _, by omega, fun y hy => by cases hy⟩
  · injection hcs with hcs _
    simp only [if_true] at hz
    refine ⟨some a, len, cap, zs.take len, hcs, ⟨by rw [List.length_take]; omega, fun hn => ?_⟩, by unfold maxLen at hm; omega, fun y hy => inI_of_wf (hwf y (List.mem_of_mem_take hy))⟩
    have h0 := hcell 0 (by omega)
    obtain ⟨b, off, spot⟩ := a
    have hspot : spot = none := by simpa [Addr.add] using World.cell?_spot h0
    subst hspot
    refine ⟨b, off, rfl, ?_, fun j hj => ?_⟩
    · have := World.block_lt_of_cell? W _ h0
      simpa [Addr.add] using this
    · have := hcell j (by omega)
      rw [add_plain] at this
      rw [this]
      simp [List.getD, hj]

set_option maxRecDepth 100000 in
/-- A diagram that comes in. -/
theorem open_diag {base : Nat} {v : Value} {d : DataW H} {p : List MemPlace} (hv : Value.okWide Tryd.prog W .any base 24 v) (h : DataW.Trod enc Tryd.prog W 0 (fun _ => true) true 24 v d p) :
    ∃ A ns cs B nm cm lp signs mate, v = dval A ns cs B nm cm lp ∧ RI W A ns signs ∧ RI W B nm mate ∧ ns ≤ 9223372036854775807 ∧ nm ≤ 9223372036854775807 ∧ (∀ y ∈ signs, inI y) ∧ (∀ y ∈ mate, inI y) ∧ inI lp := by
  obtain ⟨c0, c1, c2, y0, y1, y2, m, rfl, _, _, hy0, hy1, hy2⟩ := open_agg3 Tryd.underlying24 (by kernel_rfl) Tryd.cellsD hv h
  obtain ⟨A, ns, cs, signs, rfl, r1, l1, q1⟩ := open_ri hy0
  obtain ⟨B, nm, cm, mate, rfl, r2, l2, q2⟩ := open_ri hy1
  obtain ⟨x, e0, _, wx⟩ := DataW.trod_int Tryd.underlying3 hy2
  simp at e0
  subst e0
  exact ⟨A, ns, cs, B, nm, cm, x, signs, mate, rfl, r1, r2, l1, l2, q1, q2, inI_of_wf wx⟩

set_option maxRecDepth 100000 in
theorem trodAll_keep {W' : World} (hb : Below W.heap.size W W') : ∀ {ts : List TypeId} {vs : List Value} {ds : List (DataW H)} {ps : List MemPlace}, (∀ t ∈ ts, Tryd.prog.readableRec t = true ∧ t < Tryd.prog.types.size) →
    (∀ x ∈ ps, x.block < W.heap.size) → DataW.TrodAll enc Tryd.prog W 0 (fun _ => true) true ts vs ds ps → DataW.TrodAll enc Tryd.prog W' 0 (fun b => decide (b < W.heap.size)) true ts vs ds ps
  | [], [], [], _, _, _, h => h
  | t :: ts, v :: vs, d :: ds, ps, hr, hlt, h => by
    obtain ⟨p, q, h1, h2, rfl⟩ := h
    obtain ⟨r1, r2⟩ := hr t (by simp)
    exact ⟨p, q, Below.trod Tryd.laidOut r1 r2 h1 hb (fun x hx => hlt x (by simp [hx])), trodAll_keep hb (fun t ht => hr t (by simp [ht])) (fun x hx => hlt x (by simp [hx])) h2, rfl⟩
  | [], _ :: _, _, _, _, _, h => h.elim
  | [], [], _ :: _, _, _, _, h => h.elim
  | _ :: _, [], _, _, _, _, h => h.elim
  | _ :: _, _ :: _, [], _, _, _, h => h.elim

set_option maxRecDepth 100000 in
/-- A law that answers true and leaves all below as it was meets its specification. -/
theorem law_post {f : Func} {s : ChangeSpec} {args : Array Value} {ds gs : List (DataW H)} {before : List MemPlace} {W' : World}
    (hres : f.resultTypes = #[4]) (hvars : s.vars = []) (hpar : ∀ t ∈ f.params.toList, Tryd.prog.readableRec t = true ∧ t < Tryd.prog.types.size)
    (hspec : (s.fn H (ds ++ gs)).results = [.lit (.bool true)] ∧ (s.fn H (ds ++ gs)).args = ds ∧ (s.fn H (ds ++ gs)).vars = [])
    (hW : DataW.Whole enc Tryd.prog f.params.toList s.vars false W args.toList ds gs before) (hb : Below W.heap.size W W') :
    s.post enc Tryd.prog f false true false false W args (.bool true) W' := by
  have hlt := fun x hx => hW.lt x hx
  obtain ⟨p, q, hA, hV, e, _⟩ := id hW
  rw [hvars] at hV
  obtain ⟨rfl, rfl⟩ := trodVars_none hV
  rw [List.append_nil] at e
  subst e
  refine ⟨ds, [], before, [], before, [], hW, ?_, ?_, ?_, hb.frame _, fun h => by cases h⟩
  · rw [hspec.1, hres]
    exact trodAll_mk1 (shut_bool Tryd.underlying4 true)
  · rw [hspec.2.1]
    exact trodAll_keep hb hpar hlt hA
  · rw [hvars, hspec.2.2]
    rfl
end

end Go.Proofs.YtebliaclleplgaaDoor

/- Walks: Valid and the reference's Valid, of diagrams of any size. -/
namespace Go.Proofs.YtebliaclleplgaaDoor
open Go.RowKit

set_option maxHeartbeats 800000 in
theorem limits_all (A B : Option Addr) (ns cs nm cm : Nat) (lp : Int) (w : World) :
    Calls Tryd.prog 35 #[dval A ns cs B nm cm lp] w fun e w' => e = .returned (.bool (limB ns nm lp)) ∧ Below w.heap.size w w' := by
  by_cases h1 : ns ≤ 64
  · by_cases h2 : nm = 4 * ns
    · subst h2
      by_cases h3 : 0 ≤ lp
      · by_cases h4 : lp ≤ 64
        · have e : limB ns (4 * ns) lp = true := by simp [limB, *]
          rw [e]; clear e
          go_enter Tryd.func35, Tryd.ntmps35
          go_wp2
          go_ret
          exact ⟨rfl, below_alloc _ _⟩
        · have e : limB ns (4 * ns) lp = false := by simp [limB, *]
          rw [e]; clear e
          have h4' : 64 < lp := by omega
          go_enter Tryd.func35, Tryd.ntmps35
          go_wp2
          go_ret
          exact ⟨rfl, below_alloc _ _⟩
      · have e : limB ns (4 * ns) lp = false := by simp [limB, *]
        rw [e]; clear e
        have h4' : lp < 0 := by omega
        go_enter Tryd.func35, Tryd.ntmps35
        go_wp2
        go_ret
        exact ⟨rfl, below_alloc _ _⟩
    · have e : limB ns nm lp = false := by simp [limB, *]
      rw [e]; clear e
      have h4 : ((nm : Int) == 4 * (ns : Int)) = false := by simp; omega
      go_enter Tryd.func35, Tryd.ntmps35
      go_wp2
      go_ret
      exact ⟨rfl, below_alloc _ _⟩
  · have e : limB ns nm lp = false := by simp [limB, *]
    rw [e]; clear e
    have h4' : 64 < ns := by omega
    go_enter Tryd.func35, Tryd.ntmps35
    go_wp2
    go_ret
    exact ⟨rfl, below_alloc _ _⟩

set_option maxHeartbeats 1600000 in
set_option maxRecDepth 100000 in
theorem rvalid_limA (A B : Option Addr) (ns cs nm cm : Nat) (lp : Int) (w : World) (hl : limB ns nm lp = false) :
    Calls Tryd.prog 11 #[dval A ns cs B nm cm lp] w fun e w' => e = .returned (.bool false) ∧ Below w.heap.size w w' := by
  by_cases h1 : ns ≤ 64
  · by_cases h2 : nm = 4 * ns
    · subst h2
      by_cases h3 : 0 ≤ lp
      · have h4' : 64 < lp := by
          by_cases h4 : lp ≤ 64
          · simp [limB, *] at hl
          · omega
        clear hl
        go_enter Tryd.func11, Tryd.ntmps11
        go_wp2
        go_ret
        exact ⟨rfl, below_alloc _ _⟩
      · have h4' : lp < 0 := by omega
        clear hl h3
        go_enter Tryd.func11, Tryd.ntmps11
        go_wp2
        go_ret
        exact ⟨rfl, below_alloc _ _⟩
    · have h4 : ((nm : Int) != 4 * (ns : Int)) = true := by simp only [bne_iff_ne, ne_eq]; omega
      clear hl h2
      go_enter Tryd.func11, Tryd.ntmps11
      go_wp2
      go_ret
      exact ⟨rfl, below_alloc _ _⟩
  · have h4' : 64 < ns := by omega
    clear hl h1
    go_enter Tryd.func11, Tryd.ntmps11
    go_wp2
    go_ret
    exact ⟨rfl, below_alloc _ _⟩

set_option maxHeartbeats 1600000 in
theorem valid_limA (A B : Option Addr) (ns cs nm cm : Nat) (lp : Int) (w : World) (hl : limB ns nm lp = false) :
    Calls Tryd.prog 13 #[dval A ns cs B nm cm lp] w fun e w' => e = .returned (.bool false) ∧ Below w.heap.size w w' := by
  obtain ⟨d0, d1, d2, dlt⟩ := DB.new w A ns cs B nm cm lp
  have hb0 := below_alloc w (dbox A ns cs B nm cm lp)
  have HC1 := Lib.hid (limits_all A B ns cs nm cm lp (w.alloc (dbox A ns cs B nm cm lp)))
  rw [hl] at HC1
  clear hl
  go_enter Tryd.func13, Tryd.ntmps13
  go_wp2_with (go_at_call 35; ((with_reducible refine HC1.out.mono ?_); rintro e w1 ⟨rfl, hb1⟩))
  go_ret
  exact ⟨rfl, below_step hb0 hb1⟩
theorem mt_in {m : List Int} (h : ∀ z ∈ m, inI z) (j : Nat) : -9223372036854775808 ≤ mt m j ∧ mt m j ≤ 9223372036854775807 := by
  unfold mt
  rcases Nat.lt_or_ge j m.length with hj | hj
  · have e : m.getD j 0 = m[j] := by simp [List.getD, hj]
    rw [e]; exact h _ (List.getElem_mem hj)
  · have e : m.getD j 0 = 0 := by simp [List.getD, hj]
    rw [e]; omega
theorem lim_small {ns nm : Nat} {lp : Int} (h : limB ns nm lp = true) : ns ≤ 64 ∧ nm ≤ 256 := by have := limB_out h; omega
/-- A diagram within the limits is a small one. -/
theorem DV.lim {w : World} {A B : Option Addr} {ns nm : Nat} {s m : List Int} {lp : Int} (hs : RI w A ns s) (hm : RI w B nm m) (hmI : ∀ z ∈ m, inI z) (hl : limB ns nm lp = true) : DV w A ns B nm s m :=
  ⟨hs, hm, by have := lim_small hl; omega, by have := lim_small hl; omega, fun j _ => mt_in hmI j⟩
theorem validB_limA {s m : List Int} {lp : Int} {ns nm : Nat} (hs : s.length = ns) (hm : m.length = nm) (hl : limB ns nm lp = false) : validB s m lp = false := by
  unfold validB; rw [hs, hm, hl]; rfl
theorem DV.valid' {w : World} {A B : Option Addr} {ns nm : Nat} {s m : List Int} {lp : Int} (hs : RI w A ns s) (hm : RI w B nm m) (hmI : ∀ z ∈ m, inI z) (hv : validB s m lp = true) : DV w A ns B nm s m := by
  cases hl : limB ns nm lp with
  | true => exact DV.lim hs hm hmI hl
  | false => rw [validB_limA hs.1 hm.1 hl] at hv; cases hv
theorem valid_all {A B : Option Addr} {ns nm : Nat} (cs cm : Nat) {lp : Int} {s m : List Int} {w : World} (hs : RI w A ns s) (hm : RI w B nm m) (hmI : ∀ z ∈ m, inI z) (r : Bool) (hr : validB s m lp = r) :
    Calls Tryd.prog 13 #[dval A ns cs B nm cm lp] w fun e w' => e = .returned (.bool r) ∧ Below w.heap.size w w' := by
  cases hl : limB ns nm lp with
  | true => exact (DV.lim hs hm hmI hl).valid cs cm lp r hr
  | false =>
    rw [validB_limA hs.1 hm.1 hl] at hr
    subst hr
    exact valid_limA A B ns cs nm cm lp w hl
theorem rvalid_all {A B : Option Addr} {ns nm : Nat} (cs cm : Nat) {lp : Int} {s m : List Int} {w : World} (hs : RI w A ns s) (hm : RI w B nm m) (hmI : ∀ z ∈ m, inI z) (r : Bool) (hr : validB s m lp = r) :
    Calls Tryd.prog 11 #[dval A ns cs B nm cm lp] w fun e w' => e = .returned (.bool r) ∧ Below w.heap.size w w' := by
  cases hl : limB ns nm lp with
  | true => exact (DV.lim hs hm hmI hl).rvalid cs cm lp r hr
  | false =>
    rw [validB_limA hs.1 hm.1 hl] at hr
    subst hr
    exact rvalid_limA A B ns cs nm cm lp w hl

end Go.Proofs.YtebliaclleplgaaDoor
