import Derived.Test.YtdacjnmfmhkpiaaGreatDoorZ17
import Derived.Test.YtdacjnmfmhkpiaaGreatDoorZ07
import Derived.Maps.AppendAt
import Derived.Test.YtdacjnmfmhkpiaaGreatDoorZ16
import Derived.Test.YtdacjnmfmhkpiaaGreatDoorZ05
import Derived.Deep.RegionHeld3
import Derived.Deep.DeepCutAuto
/- Walk: awake of layer 2. -/
namespace Go.Proofs.YtdacjnmfmhkpiaaGreatDoor
open Go.RowKit

theorem RI.litL (w : World) (xs : List Int) : RI (w.alloc (.cells (ints xs).toArray 3)) (some ⟨w.heap.size, 0, none⟩) xs.length xs :=
  ⟨rfl, fun _ => ⟨w.heap.size, 0, rfl, by simp, fun j hj => by
    rw [World.cell?_alloc_at _ _ _ _ rfl, Nat.zero_add]
    simp [ints, List.getD, hj]⟩⟩
theorem tr_dv (w : World) (o : Obj) : DV (((w.alloc (.cells (ints trS).toArray 3)).alloc (.cells (ints trM).toArray 3)).alloc o) (some ⟨w.heap.size, 0, none⟩) 3 (some ⟨w.heap.size + 1, 0, none⟩) 12 trS trM := by
  refine ⟨?_, ?_, by omega, by omega, ?_⟩
  · exact ((RI.litL w trS).alloc _).alloc _
  · have := (RI.litL (w.alloc (.cells (ints trS).toArray 3)) trM).alloc o
    rw [show (w.alloc (.cells (ints trS).toArray 3)).heap.size = w.heap.size + 1 by simp] at this
    exact this
  · exact (by decide : ∀ j, j < 12 → -9223372036854775808 ≤ mt trM j ∧ mt trM j ≤ 9223372036854775807)
theorem ex_parse (W : World) (hT : TabW W) : Calls Tryz.prog 30 #[.string ⟨exT.toArray⟩] W (ParsePost exV exS 0 2 W) := by
  have h := parse_code 0 2 exV exS W ex_val rfl hT
  have e : gTxt exV exS ((0 : Nat) : Int) = exT := ex_txt
  rw [e] at h
  exact h
theorem tr_format (C S : Option Addr) (nc cc cs : Nat) (W : World) (hC : RVV W C nc (codeC trS trM 0)) (hS : RI W S 3 trS) :
    Calls Tryz.prog 29 #[dval C nc cc S 3 cs 0] W fun e w' => e = .returned (.tuple #[.string ⟨trT.toArray⟩, .int .i64 0]) ∧ Below W.heap.size W w' := by
  have h := gFormat_yes C S nc cc 3 cs 0 _ trS W hC hS (codeC_gval tr_valid)
  rw [tr_txt] at h
  exact h
theorem ex_genus (C S : Option Addr) (cc cs : Nat) (W : World) (hC : RVV W C 1 exV) (hS : RI W S 2 exS) :
    Calls Tryz.prog 20 #[dval C 1 cc S 2 cs 0] W fun e w' => e = .returned (.tuple #[.int .i64 1, .int .i64 0]) ∧ Below W.heap.size W w' := by
  have h := gGenus_any C S 1 cc 2 cs 0 exV exS W hC hS (by omega) (by omega) (by decide)
  rw [ex_val, ex_gen] at h
  exact h

set_option maxHeartbeats 3200000 in
set_option maxRecDepth 100000 in
theorem gawake_any (w : World) (ht : TabW w) : Calls Tryz.prog 12 #[] w fun e w' => e = .returned (.bool true) ∧ Below w.heap.size w w' := by
  have hT : trT = [79, 49, 43, 85, 50, 43, 79, 51, 43, 85, 49, 43, 79, 50, 43, 85, 51, 43] := rfl
  have HTT := Lib.hid hT
  clear hT
  have hTW : ∀ W, Below w.heap.size w W → TabW W := fun W hb => ht.keep hb
  have HTW := Lib.hid hTW
  clear hTW ht
  go_enter Tryz.func12, Tryz.ntmps12
  go_wp2_with fail
  refine (of_yes _ _ _ _ _ _ _ trS trM _ (tr_dv w _) tr_valid).mono ?_
  rintro e w1 ⟨C1, nc1, cc1, S1, cs1, rfl, hC1, hS1, hb1⟩
  have hw1 := below_step (below_step (below_step (below_alloc w _) (below_alloc _ _)) (below_alloc _ _)) hb1
  clear hb1
  go_wp2_with fail
  refine (tr_format _ _ _ _ _ _ (hC1.keep (below_alloc _ _)) (hS1.keep (below_alloc _ _))).mono ?_
  rintro e w2 ⟨rfl, hb2⟩
  have hw2 := below_step hw1 (below_step (below_alloc w1 _) hb2)
  clear hb2 hw1 hC1 hS1
  go_wp2_with fail
  refine (ex_parse _ (HTW.out _ hw2)).mono ?_
  rintro e w3 ⟨C3, cc3, S3, cs3, rfl, hC3, hS3, hb3⟩
  have hw3 := below_step hw2 hb3
  clear hb3 hw2
  go_wp2_with fail
  refine (ex_genus _ _ _ _ _ (hC3.keep (below_alloc _ _)) (hS3.keep (below_alloc _ _))).mono ?_
  rintro e w4 ⟨rfl, hb4⟩
  have hw4 := below_step hw3 (below_step (below_alloc w3 _) hb4)
  clear hb4 hw3 hC3 hS3
  have hs1 : ((ByteArray.mk trT.toArray).toList == [79, 49, 43, 85, 50, 43, 79, 51, 43, 85, 49, 43, 79, 50, 43, 85, 51, 43]) = true := by rw [ByteArray.toList_eq]; decide
  go_wp2
  go_ret
  exact ⟨rfl, hw4⟩

end Go.Proofs.YtdacjnmfmhkpiaaGreatDoor

/- append of a list onto an empty slice of the call's own, at a step of a region that draws. -/
namespace Go.Proofs.YtdacjnmfmhkpiaaGreatDoor
open Go.ChangeShapes Go.WideShapes Go.ChangeAt Go.RowKit

theorem OI.empty_at {w : World} {B g : Nat} (hh : w.heap[g]? = some (.cells #[] 3 (0, 0))) (hB : B ≤ g) : OI w B (.slice (some ⟨g, 0, none⟩) 0 0) [] :=
  ⟨rfl, .inr ⟨g, 0, #[], rfl, hB, hh, Nat.le_refl _, by simp [maxLen], rfl, rfl⟩⟩

theorem heap_two0 (w : World) (o o' : Obj) : ((w.alloc o).alloc o').heap[w.heap.size]? = some o := (Below.heap_alloc (w.alloc o) o' w.heap.size (by simp)).trans (heap_alloc_new w o)
theorem heap_two1 (w : World) (o o' : Obj) : ((w.alloc o).alloc o').heap[w.heap.size + 1]? = some o' := by
  have := heap_alloc_new (w.alloc o) o'
  simpa using this

set_option maxRecDepth 100000 in
/-- append of a slice that reads as a list to an empty slice of the call's own, at a step of a region that draws. -/
theorem step_append_new {ops : Array Oper} {o : Oper} {a : Act} {w : World} {K : Act → World → Prop} {Q : Exit → Act → World → Prop} {E : Prop} (hgd : o.guard = none) (s x : Operand)
    (ho : o.op = .call { callee := .builtin .append, args := #[s, x], argTypes := #[22, 22] }) (B g : Nat) (hs : a.eval s = .slice (some ⟨g, 0, none⟩) 0 0)
    (hh : w.heap[g]? = some (.cells #[] 3 (0, 0))) (hB : B ≤ g) (A : Option Addr) (n c : Nat) (xs : List Int) (hx : a.eval x = .slice A n c) (hr : RI w A n xs) (hn : n ≤ 1000000)
    (h : ∀ A' c' w' k, OI w' B (.slice A' n c') xs → (Value.slice A' n c').ownBlock = some k → (k = g ∨ k = w.heap.size) → k < w'.heap.size → w.grownBy w' (some g) → K (a.put o.dst (.slice A' n c')) w') :
    if Region.wanted o (yielded ops a.tmps) = true then Oper.wp Tryz.prog o a w K Q else E := by
  have hw : Region.wanted o (yielded ops a.tmps) = true := by simp [Region.wanted, hgd]
  rw [if_pos hw]
  obtain ⟨i0, hi, hz0, hz1, hz2⟩ := info_parts Tryz.infoInt
  have hown := OI.empty_at hh hB
  have hgs : g < w.heap.size := by
    rcases Nat.lt_or_ge g w.heap.size with hlt | hge
    · exact hlt
    · rw [Array.getElem?_eq_none hge] at hh; cases hh
  have hl := hr.1
  cases A with
  | none =>
    have h0 : n = 0 := by
      rcases Nat.eq_zero_or_pos n with h0 | h0
      · exact h0
      · obtain ⟨b, off, e, _⟩ := hr.2 h0
        cases e
    subst h0
    have hxs : xs = [] := List.length_eq_zero_iff.1 hl
    subst hxs
    have hrun : (Builtin.append_ #[22, 22] o.type #[.slice (some ⟨g, 0, none⟩) 0 0, .slice none 0 c]).run Tryz.prog w = .ok (.slice (some ⟨g, 0, none⟩) 0 0) w := by
      simp [Builtin.append_, run_underlying Tryz.underlying22, sizeOf, typeInfo, hi, Builtin.lenOf, Builtin.firstCells, storeCells]
    unfold Oper.wp execOp
    simp only [ho, resolve, invoke, builtin, Sem.run_bind, Sem.run_pure, Result.andThen_ok, List.map_toArray, List.map_cons, List.map_nil, hs, hx, hrun]
    exact h _ _ w g hown rfl (.inl rfl) hgs (World.grownBy.refl w _)
  | some ad =>
    have hcells : ∀ j u, (ints xs)[j]? = some u → w.cell? (ad.add j) = some u := by
      intro j u hj
      have hjn : j < xs.length := by
        have := (List.getElem?_eq_some_iff.1 hj).1
        simpa [ints] using this
      obtain ⟨b, off, e, _, hc⟩ := hr.2 (by omega)
      obtain rfl := Option.some.inj e
      rw [add_plain, hc j (by omega)]
      simp [ints, hjn] at hj
      rw [← hj]
      simp [List.getD, hjn]
    obtain ⟨v', w', hrun, h1, h2, _, h3⟩ := run_append_own_at (P := Tryz.prog) w B 22 o.type 3 i0 (.int .i64 0) 1 8 Tryz.underlying22 hi hz0 hz1 hz2 rfl (by decide) (.slice (some ⟨g, 0, none⟩) 0 0) 0 [] hown ad n c (ints xs) (by simp [ints, hl]) hcells
      (fun u hu => by simp [ints] at hu; obtain ⟨z, _, rfl⟩ := hu; rfl) (by unfold maxLen; omega) (by omega) (by omega)
    have hv : ∃ A' c', v' = .slice A' n c' := by
      rcases h1.2 with ⟨e, e2⟩ | ⟨g', cap', cur, e, _⟩
      · exact ⟨none, 0, by rw [e]; simp at e2; rw [e2]⟩
      · exact ⟨some ⟨g', 0, none⟩, cap', by rw [e]; simp⟩
    obtain ⟨A', c', rfl⟩ := hv
    unfold Oper.wp execOp
    simp only [ho, resolve, invoke, builtin, Sem.run_bind, Sem.run_pure, Result.andThen_ok, List.map_toArray, List.map_cons, List.map_nil, hs, hx, hrun]
    have ho : OI w' B (.slice A' n c') xs := by
      unfold OI
      simpa [ints, hl] using h1
    rcases h3 with h3 | h3
    · exact h _ _ w' g ho h3 (.inl rfl) (World.ownsRow.lt ho g h3).2 h2
    · exact h _ _ w' w.heap.size ho h3 (.inr rfl) (World.ownsRow.lt ho _ h3).2 h2

end Go.Proofs.YtdacjnmfmhkpiaaGreatDoor

/- Walk: the reference's Of. -/
namespace Go.Proofs.YtdacjnmfmhkpiaaGreatDoor
open Go.ChangeShapes Go.WideShapes Go.ChangeAt Go.RowKit

theorem omade1T {w1 w2 : World} {S : Option Addr} {sc ns : Nat} {s : List Int} {lp : Int} (t : TypeId) (ho : OI w2 w1.heap.size (.slice S ns sc) s) (hb : Below w1.heap.size w1 w2) :
    OMade w1 s ns lp (.pointer (some ⟨w2.heap.size, 0, none⟩)) (w2.alloc (.cells #[.slice none 0 0, .slice S ns sc, .int .i64 lp] t)) :=
  ⟨w2.heap.size, S, sc, rfl, hb.size, DB.newT w2 none 0 0 S ns sc lp _, fun i => World.frozen?_alloc_at _ _ _ _ rfl, ho.alloc _, fun e => by have := (World.ownsRow.lt ho _ e).2; omega, below_step hb (below_alloc _ _)⟩
theorem omade3 {w1 w2 : World} {g : Nat} {S : Option Addr} {sc ns : Nat} {s : List Int} {lp : Int} (ho : OI w2 w1.heap.size (.slice S ns sc) s) (hne : (Value.slice S ns sc).ownBlock ≠ some g) (hg : w1.heap.size ≤ g) (hb : Below w1.heap.size w1 w2) (hlt : g < w2.heap.size)
    {u0 u1 u2 : Value} (q0 : w2.cell? ⟨g, 0, none⟩ = some u0) (q1 : w2.cell? ⟨g, 1, none⟩ = some u1) (q2 : w2.cell? ⟨g, 2, none⟩ = some u2) (hf : ∀ i, w2.frozen? ⟨g, i, none⟩ = false) :
    OMade w1 s ns lp (.pointer (some ⟨g, 0, none⟩)) (set3 w2 g (.slice none 0 0) (.slice S ns sc) (.int .i64 lp)) := by
  obtain ⟨k0, k1, k2⟩ := set3_cells w2 g (.slice none 0 0) (.slice S ns sc) (.int .i64 lp) q0 q1 q2
  exact ⟨g, S, sc, rfl, hg, ⟨k0, k1, k2, by simp [World.setCell]; exact hlt⟩, fun i => by simp [hf], ho.set3 hne _ _ _, hne, set3_below hb hg _ _ _⟩
theorem one_cells (W : World) (x y : Value) (t : TypeId) : ∀ j u, [x, y][j]? = some u → (W.alloc (.cells #[x, y] t)).cell? ((⟨W.heap.size, 0, none⟩ : Addr).add j) = some u := fun j u h => by
  have h0 : ∀ i, (W.alloc (.cells #[x, y] t)).cell? ⟨W.heap.size, i, none⟩ = #[x, y][i]? := fun i => by rw [World.cell?_alloc_at _ _ _ _ rfl]
  rw [add_plain, Nat.zero_add, h0]
  match j, h with
  | 0, h => exact h
  | 1, h => exact h
theorem step_append_vis {ops : Array Oper} {o : Oper} {a : Act} {w : World} {K : Act → World → Prop} {Q : Exit → Act → World → Prop} {E : Prop} (hgd : o.guard = none) (s x : Operand)
    (ho : o.op = .call { callee := .builtin .append, args := #[s, x], argTypes := #[72, 72] })
    (B : Nat) (v : Value) (n : Nat) (xs : List Value) (hs : a.eval s = v) (hown : w.ownsRow B 73 2 v n xs) (g : Nat) (u0 u1 : Value) (hx : a.eval x = .slice (some ⟨g, 0, none⟩) 1 1) (hc : ∀ j u, [u0, u1][j]? = some u → w.cell? ((⟨g, 0, none⟩ : Addr).add j) = some u) (h0 : u0.oneCell' = true) (h1 : u1.oneCell' = true) (hlen : n ≤ 1000000) (hbase : B ≤ w.heap.size)
    (h : ∀ v' w', w'.ownsRow B 73 2 v' (n + 1) (xs ++ [u0, u1]) → w.grownBy w' v.ownBlock → K (a.put o.dst v') w') :
    if Region.wanted o (yielded ops a.tmps) = true then Oper.wp Tryz.prog o a w K Q else E := by
  have hw : Region.wanted o (yielded ops a.tmps) = true := by simp [Region.wanted, hgd]
  rw [if_pos hw]
  obtain ⟨i0, hi, hz0, hz1, hz2⟩ := info_parts Tryz.infoVisR
  exact wp_append_own w s x 72 ho B 73 i0 (.agg #[.int .i64 0, .bool false]) 2 16 Tryz.underlying72 hi hz0 hz1 hz2 rfl (by decide) v n xs hs hown ⟨g, 0, none⟩ 1 1 [u0, u1] hx rfl hc
    (fun u hu => by simp at hu; rcases hu with rfl | rfl <;> assumption) (by unfold maxLen; omega) (by omega) hbase fun v' w' h2 h3 _ => h v' w' h2 h3
theorem rof_round {w3 wr w5 : World} {Ak A5 S Av : Option Addr} {k ck c5 ns sc gB nv cv : Nat} {lp : Int} {vals : List Value} {vss : List (List Vis)} {l : List Vis} {o : Obj}
    (hgr : w3.grownBy wr (some gB)) (hgB : gB < w3.heap.size) (hfr : ∀ i, wr.frozen? ⟨gB, i, none⟩ = false) (hdb : DB wr gB Ak k ck S ns sc lp) (hrow : VR wr w3.heap.size 72 73 (.slice Ak k ck) vals (vss.take k)) (hk : k < vss.length) (hl : vss.getD k [] = l)
    (hv : VEl wr w3.heap.size 73 Av nv l)
    (hrow5 : ownRow w5 w3.heap.size 72 (.slice A5 (k + 1) c5) (vals ++ [.slice Av nv cv])) (hg5 : (wr.alloc o).grownBy w5 (Value.slice Ak k ck).ownBlock) :
    w3.grownBy (w5.setCell ⟨gB, 0, none⟩ (.slice A5 (k + 1) c5)) (some gB) ∧ (∀ i, (w5.setCell ⟨gB, 0, none⟩ (.slice A5 (k + 1) c5)).frozen? ⟨gB, i, none⟩ = false) ∧
    ∃ Ak ck vals, DB (w5.setCell ⟨gB, 0, none⟩ (.slice A5 (k + 1) c5)) gB Ak (k + 1) ck S ns sc lp ∧ VR (w5.setCell ⟨gB, 0, none⟩ (.slice A5 (k + 1) c5)) w3.heap.size 72 73 (.slice Ak (k + 1) ck) vals (vss.take (k + 1)) := by
  obtain ⟨y0, y1, y2, ylt⟩ := hdb
  have hb4 := Below.refl wr.heap.size wr
  have h45 := hgrown5 hb4 hg5
  have hlo : ∀ j, (Value.slice Ak k ck).ownBlock = some j → w3.heap.size ≤ j := fun j hj => (World.ownsRow.lt hrow.1 j hj).1
  have h35 : w3.grownBy w5 (some gB) := hgr.andThen h45 fun j hj => .inl (hlo j hj)
  have hszr := hgr.size
  have hlt5 : gB < w5.heap.size := Nat.lt_of_lt_of_le ylt h45.size
  refine ⟨grown_set h35 0 _, fun i => ?_, A5, c5, vals ++ [.slice Av nv cv], ⟨?_, ?_, ?_, by simp [World.setCell]; exact hlt5⟩, ?_⟩
  · simp [hfroz5 hb4 hg5 ylt (hfr i) hrow.1 hgB hszr]
  · exact World.cell?_setCell_same _ _ _ (hcell5i hb4 hg5 y0 hrow.1 hgB)
  · rw [World.cell?_setCell_other _ _ _ _ (by simp)]; exact hcell5i hb4 hg5 y1 hrow.1 hgB
  · rw [World.cell?_setCell_other _ _ _ _ (by simp)]; exact hcell5i hb4 hg5 y2 hrow.1 hgB
  · rw [take_succ_getD vss [] k hk, hl]
    exact (hrow.snoc hv hrow5 hg5 (by decide)).set hgB _
theorem visOf_getD (xs : List Int) (q : Nat) (h : q < xs.length) : (visOf xs).getD q v0 = visX (xs.getD q 0) := by simp [visOf, List.getD, h]
theorem map_getD (xss : List (List Int)) (k : Nat) (h : k < xss.length) : (xss.map visOf).getD k [] = visOf (xss.getD k []) := by simp [List.getD, h]
/-- What is known of the new code's box behind the append. -/
def BoxAt (w : World) (g : Nat) : Prop := DB w g none 0 0 none 0 0 0 ∧ ∀ i, w.frozen? ⟨g, i, none⟩ = false
theorem BoxAt.new (w : World) (t : TypeId) : BoxAt (w.alloc (.cells #[.slice none 0 0, .slice none 0 0, .int .i64 0] t)) w.heap.size := ⟨DB.newT w none 0 0 none 0 0 0 t, fun _ => World.frozen?_alloc_at _ _ _ _ rfl⟩
theorem BoxAt.grown {w w' : World} {g q : Nat} (h : BoxAt w g) (hg : w.grownBy w' (some q)) (hne : g ≠ q) : BoxAt w' g := by
  have hn : ∀ i, some (⟨g, i, none⟩ : Addr).block ≠ some q := fun i e => by injection e with e; exact hne e
  refine ⟨⟨World.grownBy.cell hg h.1.1 (hn 0), World.grownBy.cell hg h.1.2.1 (hn 1), World.grownBy.cell hg h.1.2.2.1 (hn 2), Nat.lt_of_lt_of_le h.1.2.2.2 hg.size⟩, fun i => ?_⟩
  have h3 := h.2 i
  have h4 := hg.block g h.1.2.2.2 (hn 0)
  unfold World.frozen? at h3 ⊢
  rw [h4]; exact h3
theorem BoxAt.alloc {w : World} {g : Nat} (h : BoxAt w g) (o : Obj) : BoxAt (w.alloc o) g := by
  refine ⟨h.1.keep (below_alloc w o), fun i => ?_⟩
  exact ((below_alloc w o).frozen (p := ⟨g, i, none⟩) h.1.2.2.2).trans (h.2 i)
def ROfPost (s : List Int) (codes : List (List Vis)) (lp : Int) (ns : Nat) (w : World) (e : Ending) (w' : World) : Prop :=
  ∃ C cc S cs, e = .returned (dval C codes.length cc S ns cs lp) ∧ RVV w' C codes.length codes ∧ RI w' S ns s ∧ Below w.heap.size w w'

set_option maxHeartbeats 3200000 in
set_option maxRecDepth 100000 in
theorem rof_any (A B : Option Addr) (ns cs nm cm : Nat) (lp : Int) (s : List Int) (xss : List (List Int)) (w : World) (hs : RI w A ns s) (hns : ns ≤ 1000) (hxl : xss.length ≤ 1000)
    (hel : ∀ j, j < xss.length → (xss.getD j []).length ≤ 1000 ∧ ∀ i, i < (xss.getD j []).length → 0 ≤ (xss.getD j []).getD i 0 ∧ (xss.getD j []).getD i 0 ≤ 1000)
    (hst : ∀ W, Below w.heap.size w W → Calls Tryz.prog 41 #[dval A ns cs B nm cm lp] W (CycsPost W xss)) :
    Calls Tryz.prog 17 #[dval A ns cs B nm cm lp] w (ROfPost s (xss.map visOf) lp ns w) := by
  have hd := (DB.new w A ns cs B nm cm lp).keep (below_alloc _ (.cells #[.slice none 0 0, .slice none 0 0, .int .i64 0] 36))
  have hb0 := below_step (below_alloc w (dbox A ns cs B nm cm lp)) (below_alloc _ (.cells #[.slice none 0 0, .slice none 0 0, .int .i64 0] 36))
  have hr := DB.newT (w.alloc (dbox A ns cs B nm cm lp)) none 0 0 none 0 0 0 36
  have hrf : ∀ i, ((w.alloc (dbox A ns cs B nm cm lp)).alloc (.cells #[.slice none 0 0, .slice none 0 0, .int .i64 0] 36)).frozen? ⟨w.heap.size + 1, i, none⟩ = false := fun i => World.frozen?_alloc_at _ _ _ _ (by simp)
  have hsz : ((w.alloc (dbox A ns cs B nm cm lp)).alloc (.cells #[.slice none 0 0, .slice none 0 0, .int .i64 0] 36)).heap.size = w.heap.size + 2 := by simp
  have hsz1 : (w.alloc (dbox A ns cs B nm cm lp)).heap.size = w.heap.size + 1 := by simp
  rw [hsz1] at hr
  have HEL := Lib.hid hel
  have HST := Lib.hid hst
  clear hel hst
  go_enter Tryz.func17, Tryz.ntmps17
  go_upto_region 1 with fail
  generalize (w.alloc (dbox A ns cs B nm cm lp)).alloc (.cells #[.slice none 0 0, .slice none 0 0, .int .i64 0] 36) = wA at hd hb0 hr hrf hsz ⊢
  obtain ⟨g1, hg1⟩ : ∃ g1, w.heap.size + 1 = g1 := ⟨_, rfl⟩
  rw [hg1] at hr hrf ⊢
  have hlt1 : w.heap.size < g1 := by omega
  clear hg1 hsz hsz1
  obtain ⟨d0, d1, d2, dlt⟩ := hd
  obtain ⟨r0, r1, r2, rlt⟩ := hr
  have hs1 := hs.keep hb0
  have HRF := Lib.hid hrf
  clear hs hrf
  have K1 : Hid (∀ o1, (wA.alloc o1).drew.cell? ⟨w.heap.size, 0, none⟩ = some (.slice A ns cs) ∧ (wA.alloc o1).drew.cell? ⟨w.heap.size, 2, none⟩ = some (.int .i64 lp)) := fun o1 => ⟨((below_alloc wA o1).cell (p := ⟨w.heap.size, 0, none⟩) dlt).trans d0, ((below_alloc wA o1).cell (p := ⟨w.heap.size, 2, none⟩) dlt).trans d2⟩
  have K2 : Hid (∀ o1 o2, ((wA.alloc o1).alloc o2).drew.cell? ⟨w.heap.size, 0, none⟩ = some (.slice A ns cs) ∧ ((wA.alloc o1).alloc o2).drew.cell? ⟨w.heap.size, 2, none⟩ = some (.int .i64 lp)) := fun o1 o2 => ⟨((below_step (below_alloc wA o1) (below_alloc _ o2)).cell (p := ⟨w.heap.size, 0, none⟩) dlt).trans d0, ((below_step (below_alloc wA o1) (below_alloc _ o2)).cell (p := ⟨w.heap.size, 2, none⟩) dlt).trans d2⟩
  go_cut [3] (fun v wX => OMade wA s ns lp v wX)
  case first =>
    go_region_held3 (fun w' => w'.cell? ⟨w.heap.size, 0, none⟩ = some (.slice A ns cs) ∧ w'.cell? ⟨w.heap.size, 2, none⟩ = some (.int .i64 lp))
      (first
        | go_keep
        | with_reducible exact ⟨(hbB.cell (p := ⟨w.heap.size, 0, none⟩) dlt).trans d0, (hbB.cell (p := ⟨w.heap.size, 2, none⟩) dlt).trans d2⟩
        | with_reducible exact K1.out _
        | with_reducible exact ⟨(set3_far w1 wA.heap.size _ _ _ (Nat.ne_of_gt dlt) 0).trans ((hbB.cell (p := ⟨w.heap.size, 0, none⟩) dlt).trans d0), (set3_far w1 wA.heap.size _ _ _ (Nat.ne_of_gt dlt) 2).trans ((hbB.cell (p := ⟨w.heap.size, 2, none⟩) dlt).trans d2)⟩
        | with_reducible exact ⟨(set3_far w1 (wA.heap.size + 1) _ _ _ (Nat.ne_of_gt (Nat.lt_succ_of_lt dlt)) 0).trans ((hbB.cell (p := ⟨w.heap.size, 0, none⟩) dlt).trans d0), (set3_far w1 (wA.heap.size + 1) _ _ _ (Nat.ne_of_gt (Nat.lt_succ_of_lt dlt)) 2).trans ((hbB.cell (p := ⟨w.heap.size, 2, none⟩) dlt).trans d2)⟩
        | with_reducible exact K2.out _ _
        | with_reducible exact ⟨((below_step hbB (below_alloc _ _)).cell (p := ⟨w.heap.size, 0, none⟩) dlt).trans d0, ((below_step hbB (below_alloc _ _)).cell (p := ⟨w.heap.size, 2, none⟩) dlt).trans d2⟩)
      (first
        | (refine step_append_new rfl (.tmp 8) (.tmp 10) rfl wA.heap.size _ (by rfl) (by exact heap_alloc_new wA _) (by exact Nat.le_refl _) A ns cs s (by rfl) (by exact (hs1.alloc _).drew) (by omega) ?_; intro A1 c1 w1 k1 ho1 hk1 hat1 hkl1 hgr1; have hbB : Below wA.heap.size wA w1 := Below.grown (((Below.refl _ _).alloc (Nat.le_refl _) _).drew) hgr1 (by simp <;> omega) (by intro q hq; injection hq with hq; subst hq; simp <;> omega))
        | (refine step_append_new rfl (.tmp 8) (.tmp 10) rfl wA.heap.size _ (by rfl) (by exact heap_two1 wA _ _) (by exact Nat.le_succ _) A ns cs s (by rfl) (by exact ((hs1.alloc _).alloc _).drew) (by omega) ?_; intro A1 c1 w1 k1 ho1 hk1 hat1 hkl1 hgr1; have hbB : Below wA.heap.size wA w1 := Below.grown ((((Below.refl _ _).alloc (Nat.le_refl _) _).alloc (by simp <;> omega) _).drew) hgr1 (by simp <;> omega) (by intro q hq; injection hq with hq; subst hq; simp <;> omega); have hbx : BoxAt w1 wA.heap.size := BoxAt.grown (w := ((wA.alloc (.cells #[.slice none 0 0, .slice none 0 0, .int .i64 0] 36)).alloc (.cells #[] 3)).drew) ((BoxAt.new wA 36).alloc _) hgr1 (by omega); have q0 := hbx.1.1; have q1 := hbx.1.2.1; have q2 := hbx.1.2.2.1; have f0 := hbx.2 0; have f1 := hbx.2 1; have f2 := hbx.2 2)
        | (refine step_append_new rfl (.tmp 8) (.tmp 10) rfl wA.heap.size _ (by rfl) (by exact heap_two0 wA _ _) (by exact Nat.le_refl _) A ns cs s (by rfl) (by exact ((hs1.alloc _).alloc _).drew) (by omega) ?_; intro A1 c1 w1 k1 ho1 hk1 hat1 hkl1 hgr1; have hbB : Below wA.heap.size wA w1 := Below.grown ((((Below.refl _ _).alloc (Nat.le_refl _) _).alloc (by simp <;> omega) _).drew) hgr1 (by simp <;> omega) (by intro q hq; injection hq with hq; subst hq; simp <;> omega); have hbx : BoxAt w1 (wA.heap.size + 1) := BoxAt.grown (w := ((wA.alloc (.cells #[] 3)).alloc (.cells #[.slice none 0 0, .slice none 0 0, .int .i64 0] 36)).drew) (by have h5 := BoxAt.new (wA.alloc (.cells #[] 3)) 36; rw [show (wA.alloc (.cells #[] 3)).heap.size = wA.heap.size + 1 by simp] at h5; exact h5) hgr1 (by omega); have q0 := hbx.1.1; have q1 := hbx.1.2.1; have q2 := hbx.1.2.2.1; have f0 := hbx.2 0; have f1 := hbx.2 1; have f2 := hbx.2 2))
    all_goals go_wp2_with fail
    all_goals go_meet
    · exact omade1T _ ho1 hbB
    · exact omade3 ho1 (fun e => by rw [hk1] at e; injection e with e; simp at hat1; omega) (Nat.le_succ _) hbB hbx.1.2.2.2 hbx.1.1 hbx.1.2.1 hbx.1.2.2.1 hbx.2
    · exact omade3 ho1 (fun e => by rw [hk1] at e; injection e with e; simp at hat1; omega) (Nat.le_refl _) hbB hbx.1.2.2.2 hbx.1.1 hbx.1.2.1 hbx.1.2.2.1 hbx.2
  case rest =>
    obtain ⟨gB, S, sc, rfl, hgB, hcb, hcf, hoS, hSne, hbX⟩ := hcut
    clear K1 K2
    have hbwc := below_step hb0 hbX
    have x0 := (hbX.cell (p := ⟨w.heap.size, 0, none⟩) dlt).trans d0
    have x1 := (hbX.cell (p := ⟨w.heap.size, 1, none⟩) dlt).trans d1
    have x2 := (hbX.cell (p := ⟨w.heap.size, 2, none⟩) dlt).trans d2
    have CS := Lib.hid (HST.out wc hbwc)
    clear d0 d1 d2
    go_wp2_with (go_at_call 41; ((with_reducible refine CS.out.mono ?_); rintro e w3 ⟨v3, rfl, ho3, hb3⟩; obtain ⟨A3, c3, rfl⟩ := ho3.form))
    have hgBc : gB < wc.heap.size := hcb.2.2.2
    have hcb3 := hcb.keep hb3
    have hcf3 : ∀ i, w3.frozen? ⟨gB, i, none⟩ = false := fun i => (hb3.frozen (p := ⟨gB, i, none⟩) hgBc).trans (hcf i)
    have hoS3 := hoS.keep hb3
    have HSN := Lib.hid hSne
    have HOO := Lib.hid ho3
    have hgB3 : gB < w3.heap.size := hcb3.2.2.2
    have hbA3 := below_step hbX hb3
    obtain ⟨N, hN⟩ : ∃ N, xss.length = N := ⟨_, rfl⟩
    have HN := Lib.hid hN
    rw [hN] at hxl ⊢
    have hv0 : VR w3 w3.heap.size 72 73 (.slice none 0 0) [] ((xss.map visOf).take 0) := ⟨World.ownsRow_nil w3 _ _ _, rfl, fun i hi => absurd hi (by simp)⟩
    have HML : Hid ((xss.map visOf).length = N) := Lib.hid (by rw [List.length_map, hN])
    clear hcb hcf hoS hSne hbX x0 x1 x2 hN ho3 CS HST
    go_loopw [5, 6, 7] (fun i _ _ wr => ∃ k : Nat, k ≤ N ∧ i = .int .i64 k ∧ w3.grownBy wr (some gB) ∧ (∀ i, wr.frozen? ⟨gB, i, none⟩ = false) ∧ ∃ Ak ck vals, DB wr gB Ak k ck S ns sc lp ∧ VR wr w3.heap.size 72 73 (.slice Ak k ck) vals ((xss.map visOf).take k)) (fun i _ _ _ => N - (intOf i).toNat)
    case atStart => exact ⟨0, by omega, rfl, World.grownBy.refl _ _, hcf3, none, 0, [], hcb3, hv0⟩
    case round =>
      obtain ⟨k, hk, rfl, hgr, hfr, Ak, ck, vals, hdb, hrow⟩ := hrel
      have hk0 : (0 : Int) ≤ (k : Int) := Int.natCast_nonneg _
      by_cases hlt : k < N
      · have hoo := HOO.out.grown_lt hgr (fun g e => by injection e with e; omega)
        rw [← HN.out] at hlt
        obtain ⟨_, gA, A', n', c', rfl, hgA1, hgA2, hcel, hoel⟩ := hoo.el k hlt
        have hEL := HEL.out k hlt
        have hmg := map_getD xss k hlt
        rw [HN.out] at hlt
        have hln := hoel.ri.1
        obtain ⟨xs, hxs⟩ : ∃ xs, xss.getD k [] = xs := ⟨_, rfl⟩
        rw [hxs] at hEL hoel hln hmg
        have hri := hoel.ri
        have hk1 : (k : Int) < (N : Int) := by omega
        have hn1000 : n' ≤ 1000 := by rw [← hln]; exact hEL.1
        have HEL2 : Hid (∀ i, i < n' → 0 ≤ xs.getD i 0 ∧ xs.getD i 0 ≤ 1000) := Lib.hid fun i hi => hEL.2 i (by omega)
        have HLN := Lib.hid hln
        have HRI := Lib.hid hri
        have HGR := Lib.hid hgr
        have HFR := Lib.hid hfr
        have HDB := Lib.hid hdb
        have HROW := Lib.hid hrow
        have HMG := Lib.hid hmg
        have HVL : Hid ((visOf xs).length = n') := Lib.hid (by rw [visOf_length, hln])
        have hszr := hgr.size
        obtain ⟨Bi, hBi⟩ : ∃ Bi, wr.heap.size = Bi := ⟨_, rfl⟩
        have hBr : Below Bi wr wr := Below.refl _ _
        obtain ⟨wC, hwC⟩ : ∃ wC : World, wC = wr := ⟨_, rfl⟩
        subst hwC
        have hv1 : wC.ownsRow Bi 73 2 (.slice none 0 0) 0 (vcells ((visOf xs).take 0)) := World.ownsRow_nil wC _ _ _
        have HBI := Lib.hid hBi
        clear hEL hxs hln hoo hoel hri hgA1 hgr hfr hdb hrow hmg hBi
        go_wp2
        go_loopw [6, 7] (fun v i wr => ∃ q : Nat, q ≤ n' ∧ i = .int .i64 q ∧ Below Bi wC wr ∧ wr.ownsRow Bi 73 2 v q (vcells ((visOf xs).take q))) (fun _ i _ => n' - (intOf i).toNat)
        case atStart => exact ⟨0, by omega, rfl, hBr, hv1⟩
        case round =>
          obtain ⟨q, hq, rfl, hbq, hown⟩ := hrel
          have hq0 : (0 : Int) ≤ (q : Int) := Int.natCast_nonneg _
          have hbq' : Below wC.heap.size wC wr := by rw [HBI.out]; exact hbq
          have hcelq := (hbq'.cell (p := ⟨gA, k, none⟩) hgA2).trans hcel
          by_cases hql : q < n'
          · obtain ⟨b1, o1, hAe, hb1, hcv⟩ := (HRI.out.keep hbq').2 (by omega)
            subst hAe
            have z0 := hcv q hql
            obtain ⟨hx0, hx1⟩ := HEL2.out q hql
            have hqx : q < xs.length := by have := HLN.out; omega
            have htk := take_succ_getD (visOf xs) v0 q (by rw [HVL.out]; exact hql)
            rw [visOf_getD xs q hqx] at htk
            obtain ⟨x, hxe⟩ := Int.eq_ofNat_of_zero_le hx0
            rw [hxe] at z0 hx1 htk
            have hvc : vcells ((visOf xs).take (q + 1)) = vcells ((visOf xs).take q) ++ [.int .i64 ((x : Int) / 4), .bool ((x : Int) % 2 == 1)] := by rw [htk, vcells_snoc]; rfl
            have HVC := Lib.hid hvc
            have HOWN := Lib.hid hown
            have hq1 : (q : Int) < (n' : Int) := by omega
            have hxn : (0 : Int) ≤ (x : Int) := Int.natCast_nonneg _
            have hsq : Bi ≤ wr.heap.size := by have := hbq'.size; have := HBI.out; omega
            have hlenq : q ≤ 1000000 := by omega
            have hw1 : IntKind.i64.wrap ((x : Int) / 4) = (x : Int) / 4 := IntWalk.i64_in _ (by omega)
            have hw2 : IntKind.i64.wrap ((x : Int) % 2) = (x : Int) % 2 := IntWalk.i64_in _ (by omega)
            clear hcv hxe hx0 htk hvc hown
            go_wp2
            go_region_law (refine step_append_vis rfl (.tmp 32) (.tmp 51) rfl Bi _ q (vcells ((visOf xs).take q)) rfl ((HOWN.out.alloc _).drew) wr.heap.size (.int .i64 ((x : Int) / 4)) (.bool ((x : Int) % 2 == 1)) rfl (one_cells wr _ _ _) rfl rfl hlenq (by show Bi ≤ (wr.alloc _).heap.size; simp; omega) ?_; intro v5 w5 hown5 hg5)
            all_goals
              have hb5 : Below Bi wC w5 := ((hbq.alloc hsq _).drew).grown hg5 (by show Bi ≤ (wr.alloc _).heap.size; simp; omega) (fun j hj => (World.ownsRow.lt HOWN.out j hj).1)
              have HO5 : Hid (w5.ownsRow Bi 73 2 v5 (q + 1) (vcells ((visOf xs).take (q + 1)))) := by rw [HVC.out]; exact hown5
              clear hown5 hg5
              go_wp2
              go_roundw
              case rel => exact ⟨q + 1, by omega, by go_num, hb5, HO5.out⟩
              case measure => simp [intOf]; omega
          · obtain rfl : q = n' := by omega
            have htl : (visOf xs).take q = visOf xs := by rw [← HVL.out, List.take_length]
            have hown' : wr.ownsRow Bi 73 2 u6 (visOf xs).length (vcells (visOf xs)) := by rw [HVL.out]; rw [htl] at hown; exact hown
            have hBiB : w3.heap.size ≤ Bi := by have := HBI.out; omega
            obtain ⟨Av, cv, rfl, hvel⟩ := vel_of_own (B := w3.heap.size) hown' hBiB
            rw [HVL.out] at hvel ⊢
            have hdb' := HDB.out.keep hbq'
            have hrow' := HROW.out.keep hbq'
            have hwB : gB < wC.heap.size := HDB.out.2.2.2
            have hfr' : ∀ i, wr.frozen? ⟨gB, i, none⟩ = false := fun i => (hbq'.frozen (p := ⟨gB, i, none⟩) hwB).trans (HFR.out i)
            have hvl : vals.length = k := by rw [hrow'.2.1, List.length_take, HML.out]; omega
            have y0 := hdb'.1
            have hgr' : w3.grownBy wr (some gB) := HGR.out.andThen (grown_of_below hbq') (fun j hj => by cases hj)
            have hsr : w3.heap.size ≤ wr.heap.size := hgr'.size
            have HVL2 := Lib.hid hvl
            have HROW' := Lib.hid hrow'
            have HDB' := Lib.hid hdb'
            have HFR' := Lib.hid hfr'
            have HVEL := Lib.hid hvel
            have HGR' := Lib.hid hgr'
            have hkm : k < (xss.map visOf).length := by rw [HML.out]; exact hlt
            clear hown hown' htl hdb' hrow' hfr' hvl hvel hql hq hgr'
            go_wp2_with (
              at_builtin
              refine wpList_append_row1 rfl (.tmp 54) (.tmp 56) 34 72 (.slice none 0 0) 24 rfl Tryz.underlying34 Tryz.infoVisRL rfl (by omega) w3.heap.size _ vals rfl (World.ownsRow.alloc HROW'.out.1 _) wr.heap.size (.slice Av q cv) rfl (by rw [World.cell?_alloc_at _ _ _ _ rfl]; rfl) rfl (by rw [HVL2.out]; omega) (by simp; omega) ?_
              rw [HVL2.out]
              intro A5 c5 w5 hrow5 hg5
              have q5 : w5.cell? ⟨gB, 0, none⟩ = some (.slice Ak k ck) := hcell5i (Below.refl _ _) hg5 HDB'.out.1 HROW'.out.1 hgB3
              have f5 : w5.frozen? ⟨gB, 0, none⟩ = false := hfroz5 (Below.refl _ _) hg5 HDB'.out.2.2.2 (HFR'.out 0) HROW'.out.1 hgB3 hsr)
            have HPR := Lib.hid (rof_round HGR'.out hgB3 HFR'.out HDB'.out HROW'.out hkm HMG.out HVEL.out hrow5 hg5)
            clear hrow5 hg5 q5 f5
            go_roundw
            case rel => exact ⟨k + 1, by omega, by go_num, HPR.out.1, HPR.out.2.1, HPR.out.2.2⟩
            case measure => simp [intOf]; omega
      · obtain rfl : k = N := by omega
        have htk : (xss.map visOf).take k = xss.map visOf := by rw [← HML.out, List.take_length]
        rw [htk] at hrow
        obtain ⟨y0, y1, y2, ylt⟩ := hdb
        have hgA1 : g1 < wA.heap.size := rlt
        have hne : ∀ i, some (⟨g1, i, none⟩ : Addr).block ≠ some gB := fun i e => by
          have e1 : g1 = gB := Option.some.inj e
          omega
        have q0 := World.grownBy.cell hgr ((hbA3.cell (p := ⟨g1, 0, none⟩) rlt).trans r0) (hne 0)
        have q1 := World.grownBy.cell hgr ((hbA3.cell (p := ⟨g1, 1, none⟩) rlt).trans r1) (hne 1)
        have q2 := World.grownBy.cell hgr ((hbA3.cell (p := ⟨g1, 2, none⟩) rlt).trans r2) (hne 2)
        have hfz : ∀ i, wr.frozen? ⟨g1, i, none⟩ = false := fun i => by
          have h3 := (hbA3.frozen (p := ⟨g1, i, none⟩) rlt).trans (HRF.out i)
          have h4 := hgr.block g1 (Nat.lt_of_lt_of_le rlt hbA3.size) (hne 0)
          unfold World.frozen? at h3 ⊢
          rw [h4]; exact h3
        have f0 := hfz 0
        have f1 := hfz 1
        have f2 := hfz 2
        obtain ⟨k0, k1, k2⟩ := set3_cells wr g1 (.slice Ak k ck) (.slice S ns sc) (.int .i64 lp) q0 q1 q2
        have hsA := hbA3.size
        have hR := (hrow.set3 (g1 := g1) (by omega) (.slice Ak k ck) (.slice S ns sc) (.int .i64 lp)).rvv
        have hoF := ((hoS3.grown hgr (.inr HSN.out)).set3 (g := g1) (fun e => by have := (World.ownsRow.lt hoS3 g1 e).1; omega) (.slice Ak k ck) (.slice S ns sc) (.int .i64 lp)).ri
        have hs0 := hb0.size
        have hbF := set3_below (grown_below (below_step hb0 hbA3) hgr (by omega) (by omega)) (Nat.le_of_lt hlt1) (.slice Ak k ck) (.slice S ns sc) (.int .i64 lp)
        have hml := HML.out
        have HF : Hid (ROfPost s (xss.map visOf) lp ns w (.returned (dval Ak k ck S ns sc lp)) (set3 wr g1 (.slice Ak k ck) (.slice S ns sc) (.int .i64 lp))) := Lib.hid ⟨Ak, ck, S, sc, by rw [hml], by rw [hml]; exact hR, hoF, hbF⟩
        clear hR hoF hbF hrow hfr htk hlt hk hml hfz hoS3
        go_wp2
        exact bodyPost_ret (v := dval Ak k ck S ns sc lp) (by simp [results, Tryz.results17, go_sem, k0, k1, k2]) rfl HF.out

end Go.Proofs.YtdacjnmfmhkpiaaGreatDoor

/- Walk: the reference's Same, of two codes that read alike. -/
namespace Go.Proofs.YtdacjnmfmhkpiaaGreatDoor
open Go.RowKit

abbrev rbox (C : Option Addr) (nc cc : Nat) (S : Option Addr) (ns cs : Nat) (lp : Int) : Obj := .cells #[.slice C nc cc, .slice S ns cs, .int .i64 lp] 36

set_option maxHeartbeats 3200000 in
set_option maxRecDepth 100000 in
theorem same_true (C S C' S' : Option Addr) (nc cc ns cs cc' cs' : Nat) (lp : Int) (vss : List (List Vis)) (s : List Int) (w : World) (hC : RVV w C nc vss) (hS : RI w S ns s) (hC' : RVV w C' nc vss) (hS' : RI w S' ns s)
    (hns : ns ≤ 1000000) (hnc : nc ≤ 1000000) (hl : ∀ j, (vss.getD j []).length ≤ 1000000) :
    Calls Tryz.prog 15 #[dval C nc cc S ns cs lp, dval C' nc cc' S' ns cs' lp] w fun e w' => e = .returned (.bool true) ∧ Below w.heap.size w w' := by
  have hba := below_alloc w (rbox C nc cc S ns cs lp)
  have hbb := below_alloc (w.alloc (rbox C nc cc S ns cs lp)) (rbox C' nc cc' S' ns cs' lp)
  have hb0 := below_step hba hbb
  have hd := (DB.newT w C nc cc S ns cs lp 36).keep hbb
  have hd' := DB.newT (w.alloc (rbox C nc cc S ns cs lp)) C' nc cc' S' ns cs' lp 36
  have hsz : (w.alloc (rbox C nc cc S ns cs lp)).heap.size = w.heap.size + 1 := by simp
  rw [hsz] at hd'
  obtain ⟨d0, d1, d2, dlt⟩ := hd
  obtain ⟨e0, e1, e2, elt⟩ := hd'
  have C1 : ∀ W : World, Below w.heap.size w W → Hid (Calls Tryz.prog 40 #[.slice S ns cs, .slice S' ns cs'] W fun e w' => e = .returned (.bool true) ∧ Below W.heap.size W w') := fun W hb => ints_r true S S' ns cs ns cs' s s W (hS.keep hb) (hS'.keep hb) (by omega) (by omega) (by simp)
  have HL := Lib.hid hl
  have HC := Lib.hid hC
  have HC' := Lib.hid hC'
  clear hba hbb hS hS' hC hC' hsz hl
  go_enter Tryz.func15, Tryz.ntmps15
  go_upto_region 1 with fail
  generalize (w.alloc (rbox C nc cc S ns cs lp)).alloc (rbox C' nc cc' S' ns cs' lp) = wA at *
  obtain ⟨gB, hgB⟩ : ∃ g, w.heap.size + 1 = g := ⟨_, rfl⟩
  rw [hgB] at e0 e1 e2 elt ⊢
  go_wp2_with (go_at_call 40; ((with_reducible refine (C1 _ hb0).out.mono ?_); rintro e w1 ⟨rfl, hb1⟩; have f0 := (hb1.cell (p := ⟨w.heap.size, 0, none⟩) dlt).trans d0; have f1 := (hb1.cell (p := ⟨w.heap.size, 2, none⟩) dlt).trans d2; have g0 := (hb1.cell (p := ⟨gB, 0, none⟩) elt).trans e0; have g1 := (hb1.cell (p := ⟨gB, 2, none⟩) elt).trans e2))
  have hbw := below_step hb0 hb1
  have hlt0 : w.heap.size < w1.heap.size := Nat.lt_of_lt_of_le dlt hb1.size
  have hlt1 : gB < w1.heap.size := Nat.lt_of_lt_of_le elt hb1.size
  clear C1 d0 d1 d2 e0 e1 e2 hb0 hb1 dlt elt hgB
  go_loopw [5, 6] (fun i _ wr => ∃ k : Nat, k ≤ nc ∧ i = .int .i64 k ∧ Below w1.heap.size w1 wr) (fun i _ _ => nc - (intOf i).toNat)
  case atStart => exact ⟨0, by omega, rfl, Below.refl _ _⟩
  case round =>
    obtain ⟨k, hk, rfl, hbr⟩ := hrel
    have hk0 : (0 : Int) ≤ (k : Int) := Int.natCast_nonneg _
    have x0 := (hbr.cell (p := ⟨w.heap.size, 0, none⟩) hlt0).trans f0
    have y0 := (hbr.cell (p := ⟨gB, 0, none⟩) hlt1).trans g0
    by_cases hlt : k < nc
    · have hbwr := below_step hbw hbr
      obtain ⟨b1, o1, hC1, hb1, hc1⟩ := HC.out.2 (by omega)
      obtain ⟨b2, o2, hC2, hb2, hc2⟩ := HC'.out.2 (by omega)
      subst hC1; subst hC2
      obtain ⟨A1, n1, c1, hcel1, hr1⟩ := hc1 k hlt
      obtain ⟨A2, n2, c2, hcel2, hr2⟩ := hc2 k hlt
      have hn12 : n2 = n1 := by rw [← hr1.1, ← hr2.1]
      subst hn12
      have hL := HL.out k
      rw [hr1.1] at hL
      have u0 := (hbwr.cell (p := ⟨b1, o1 + k, none⟩) hb1).trans hcel1
      have u1 := (hbwr.cell (p := ⟨b2, o2 + k, none⟩) hb2).trans hcel2
      have hk1 : (k : Int) < (nc : Int) := by omega
      have HR1 := Lib.hid hr1
      have HR2 := Lib.hid hr2
      clear hc1 hc2 hr1 hr2
      go_wp2
      go_region
      have hbrD := hbr.drew
      have HBD := Lib.hid hbrD
      have hr0 : Below w1.heap.size w1 wr.drew := hbrD
      clear u0 u1 x0 y0 hbr hbwr hbrD
      generalize wr.drew = wC at *
      go_wp2
      go_loopw [6] (fun i wr => ∃ q : Nat, q ≤ n2 ∧ i = .int .i64 q ∧ Below w1.heap.size w1 wr) (fun i _ => n2 - (intOf i).toNat)
      case atStart => exact ⟨0, by omega, rfl, hr0⟩
      case round =>
        obtain ⟨q, hq, rfl, hbq⟩ := hrel
        have hq0 : (0 : Int) ≤ (q : Int) := Int.natCast_nonneg _
        have hbwq := below_step hbw hbq
        have x0 := (hbq.cell (p := ⟨w.heap.size, 0, none⟩) hlt0).trans f0
        have y0 := (hbq.cell (p := ⟨gB, 0, none⟩) hlt1).trans g0
        have u0 := (hbwq.cell (p := ⟨b1, o1 + k, none⟩) hb1).trans hcel1
        have u1 := (hbwq.cell (p := ⟨b2, o2 + k, none⟩) hb2).trans hcel2
        by_cases hql : q < n2
        · obtain ⟨b3, o3, hA1, hb3, hc3⟩ := HR1.out.2 (by omega)
          obtain ⟨b4, o4, hA2, hb4, hc4⟩ := HR2.out.2 (by omega)
          subst hA1; subst hA2
          obtain ⟨t0, t1⟩ := hc3 q hql
          obtain ⟨t2, t3⟩ := hc4 q hql
          have z0 := (hbwq.cell (p := ⟨b3, o3 + q * 2, none⟩) hb3).trans t0
          have z1 := (hbwq.cell (p := ⟨b3, o3 + q * 2 + 1, none⟩) hb3).trans t1
          have z2 := (hbwq.cell (p := ⟨b4, o4 + q * 2, none⟩) hb4).trans t2
          have z3 := (hbwq.cell (p := ⟨b4, o4 + q * 2 + 1, none⟩) hb4).trans t3
          generalize ((vss.getD k []).getD q v0).1 = vc at *
          generalize ((vss.getD k []).getD q v0).2 = vo at *
          have hq1 : (q : Int) < (n2 : Int) := by omega
          have HBQ := Lib.hid hbq.drew
          clear hc3 hc4 t0 t1 t2 t3 hbwq
          go_wp2
          go_region
          have hbD := HBQ.out
          clear x0 y0 u0 u1 z0 z1 z2 z3 hbq HBQ
          generalize wr.drew = wD at *
          go_wp2
          go_roundw
          case rel => exact ⟨q + 1, by omega, by go_num, hbD⟩
          case measure => simp [intOf]; omega
        · obtain rfl : q = n2 := by omega
          have HBQ := Lib.hid hbq
          clear hql hq
          go_wp2
          go_roundw
          case rel => exact ⟨k + 1, by omega, by go_num, HBQ.out⟩
          case measure => simp [intOf]; omega
    · obtain rfl : k = nc := by omega
      clear hlt hk
      go_wp2
      go_ret
      exact ⟨rfl, below_step hbw hbr⟩

end Go.Proofs.YtdacjnmfmhkpiaaGreatDoor
