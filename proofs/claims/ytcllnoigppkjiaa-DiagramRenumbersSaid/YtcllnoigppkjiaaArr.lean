/- Words for memory: an array of the call's own. -/
import Derived.Test.YtcllnoigppkjiaaPaired2
import Derived.Test.YtcllnoigppkjiaaUfPlain
import Derived.Laws.Rows
import Derived.Laws.Tables
namespace Go.Proofs.Ytcllnoigppkjiaa
open Go.RowKit

def cellsN (n : Nat) (V : Nat → Value) : Array Value := ((List.range n).map V).toArray
theorem cellsN_get (n : Nat) (V : Nat → Value) (i : Nat) (h : i < n) : (cellsN n V)[i]? = some (V i) := by
  simp [cellsN, h]
theorem cellsN_set (n : Nat) (V : Nat → Value) (j : Nat) (u : Value) : (cellsN n V).setIfInBounds j u = cellsN n (fun i => if i = j then u else V i) := by
  apply Array.ext
  · simp [cellsN]
  · intro i h1 h2
    simp only [cellsN, List.getElem_toArray, List.getElem_map, List.getElem_range]
    by_cases e : j = i
    · subst e; simp
    · simp [e, Ne.symm e]
theorem cellsN_congr {n : Nat} {V V' : Nat → Value} (h : ∀ i, i < n → V i = V' i) : cellsN n V = cellsN n V' := by
  unfold cellsN
  congr 1
  exact List.map_congr_left fun i hi => h i (by simpa using hi)

/-- Block g is an array of n cells V 0, V 1, .. -/
def Arr (w : World) (g : Nat) (t : TypeId) (n : Nat) (V : Nat → Value) : Prop := w.heap[g]? = some (.cells (cellsN n V) t (0, 0))
abbrev iv (L : Nat → Nat) : Nat → Value := fun i => .int .i64 (L i : Nat)
abbrev zv (L : Nat → Int) : Nat → Value := fun i => .int .i64 (L i)
abbrev bv (S : Nat → Bool) : Nat → Value := fun i => .bool (S i)

section
variable {w w' : World} {g n : Nat} {t : TypeId} {V : Nat → Value}
theorem Arr.lt (h : Arr w g t n V) : g < w.heap.size := by
  rcases Nat.lt_or_ge g w.heap.size with hlt | hge
  · exact hlt
  · unfold Arr at h; rw [Array.getElem?_eq_none hge] at h; cases h
theorem Arr.cell (h : Arr w g t n V) (i : Nat) (hi : i < n) : w.cell? ⟨g, i, none⟩ = some (V i) := by
  rw [cell_of_row w g i _ t (0, 0) h, cellsN_get n V i hi]
theorem Arr.frozen (h : Arr w g t n V) (i : Nat) : w.frozen? ⟨g, i, none⟩ = false := frozen_of_row w g i _ t h
theorem Arr.drew (h : Arr w g t n V) : Arr w.drew g t n V := h
theorem Arr.alloc (h : Arr w g t n V) (o : Obj) : Arr (w.alloc o) g t n V := (Below.heap_alloc w o g h.lt).trans h
theorem Arr.new (w : World) (n : Nat) (t : TypeId) (V : Nat → Value) : Arr (w.alloc (.cells (cellsN n V) t)) w.heap.size t n V := heap_alloc_new w _
theorem Arr.set (h : Arr w g t n V) (j : Nat) (u : Value) : Arr (w.setCell ⟨g, j, none⟩ u) g t n (fun i => if i = j then u else V i) := by
  unfold Arr at h ⊢
  rw [← cellsN_set]
  simp [World.setCell, Array.getElem?_modify, h]
theorem Arr.far (h : Arr w g t n V) {p : Addr} (hp : g ≠ p.block) (u : Value) : Arr (w.setCell p u) g t n V := (Below.heap_setCell w p u g hp).trans h
theorem Arr.below {B : Nat} (h : Arr w g t n V) (hb : Below B w w') (hg : g < B) : Arr w' g t n V := (hb.block g hg).trans h
theorem Arr.keep (h : Arr w g t n V) (hb : Below w.heap.size w w') : Arr w' g t n V := h.below hb h.lt
theorem Arr.congr {V' : Nat → Value} (h : Arr w g t n V) (e : ∀ i, i < n → V i = V' i) : Arr w g t n V' := by
  unfold Arr at h ⊢; rw [h, cellsN_congr e]
end
theorem iv_set (L : Nat → Nat) (j v : Nat) : (fun i => if i = j then (.int .i64 (v : Nat) : Value) else iv L i) = iv (upd L j v) := by
  funext i; unfold upd iv; by_cases e : i = j <;> simp [e]
theorem Arr.seti {w : World} {g n : Nat} {t : TypeId} {L : Nat → Nat} (h : Arr w g t n (iv L)) (j v : Nat) : Arr (w.setCell ⟨g, j, none⟩ (.int .i64 (v : Nat))) g t n (iv (upd L j v)) := by
  have := h.set j (.int .i64 (v : Nat)); rwa [iv_set] at this

theorem DB.below {w w' : World} {g b : Nat} {A : Option Addr} {ns cs : Nat} {B : Option Addr} {nm cm : Nat} {lp : Int} (h : DB w g A ns cs B nm cm lp) (hb : Below b w w') (hg : g < b) : DB w' g A ns cs B nm cm lp :=
  ⟨(hb.cell (p := ⟨g, 0, none⟩) hg).trans h.1, (hb.cell (p := ⟨g, 1, none⟩) hg).trans h.2.1, (hb.cell (p := ⟨g, 2, none⟩) hg).trans h.2.2.1, Nat.lt_of_lt_of_le h.2.2.2 hb.size⟩
theorem zv_set (L : Nat → Int) (j : Nat) (v : Int) : (fun i => if i = j then (.int .i64 v : Value) else zv L i) = zv (fun i => if i = j then v else L i) := by
  funext i; unfold zv; by_cases e : i = j <;> simp [e]
theorem Arr.setz {w : World} {g n : Nat} {t : TypeId} {L : Nat → Int} (h : Arr w g t n (zv L)) (j : Nat) (v : Int) : Arr (w.setCell ⟨g, j, none⟩ (.int .i64 v)) g t n (zv fun i => if i = j then v else L i) := by
  have := h.set j (.int .i64 v); rwa [zv_set] at this
theorem bv_set (S : Nat → Bool) (j : Nat) (v : Bool) : (fun i => if i = j then (.bool v : Value) else bv S i) = bv (fun i => if i = j then v else S i) := by
  funext i; unfold bv; by_cases e : i = j <;> simp [e]
theorem Arr.setb {w : World} {g n : Nat} {t : TypeId} {S : Nat → Bool} (h : Arr w g t n (bv S)) (j : Nat) (v : Bool) : Arr (w.setCell ⟨g, j, none⟩ (.bool v)) g t n (bv fun i => if i = j then v else S i) := by
  have := h.set j (.bool v); rwa [bv_set] at this
theorem below_set {B : Nat} {a w : World} (h : Below B a w) {g i : Nat} (hg : B ≤ g) (u : Value) : Below B a (w.setCell ⟨g, i, none⟩ u) := h.setCell (p := ⟨g, i, none⟩) hg u

theorem zeros64 : #[Value.int .i64 0, Value.int .i64 0, Value.int .i64 0, Value.int .i64 0, Value.int .i64 0, Value.int .i64 0, Value.int .i64 0, Value.int .i64 0, Value.int .i64 0, Value.int .i64 0, Value.int .i64 0, Value.int .i64 0, Value.int .i64 0, Value.int .i64 0, Value.int .i64 0, Value.int .i64 0, Value.int .i64 0, Value.int .i64 0, Value.int .i64 0, Value.int .i64 0, Value.int .i64 0, Value.int .i64 0, Value.int .i64 0, Value.int .i64 0, Value.int .i64 0, Value.int .i64 0, Value.int .i64 0, Value.int .i64 0, Value.int .i64 0, Value.int .i64 0, Value.int .i64 0, Value.int .i64 0, Value.int .i64 0, Value.int .i64 0, Value.int .i64 0, Value.int .i64 0, Value.int .i64 0, Value.int .i64 0, Value.int .i64 0, Value.int .i64 0, Value.int .i64 0, Value.int .i64 0, Value.int .i64 0, Value.int .i64 0, Value.int .i64 0, Value.int .i64 0, Value.int .i64 0, Value.int .i64 0, Value.int .i64 0, Value.int .i64 0, Value.int .i64 0, Value.int .i64 0, Value.int .i64 0, Value.int .i64 0, Value.int .i64 0, Value.int .i64 0, Value.int .i64 0, Value.int .i64 0, Value.int .i64 0, Value.int .i64 0, Value.int .i64 0, Value.int .i64 0, Value.int .i64 0, Value.int .i64 0] = cellsN 64 (iv fun _ => 0) := rfl

theorem wpList_store_row {P : Program} {ops : Array Oper} {rest : List Oper} {op : Oper} {a : Act} {w : World} {Q : Exit → Act → World → Prop} (hgd : op.guard = none) (ty : TypeId) (x y : Operand) (ho : op.op = .store ty x y)
    (g : Nat) (t : TypeId) (old cells : Array Value) (hx : a.eval x = .pointer (some ⟨g, 0, none⟩)) (hy : a.eval y = .agg cells)
    (hg : w.heap[g]? = some (.cells old t (0, 0))) (hi : (P.info? ty).map (·.size) = some cells.size) (hoc : old.size = cells.size) (h1 : cells.all (·.oneCell') = true)
    (h : wpList P ops Q rest (a.put op.dst undef) (w.setRow g cells)) : wpList P ops Q (op :: rest) a w :=
  wpList_plain hgd fun _ hK => by
    unfold Oper.wp execOp
    have hrun := run_storeVar_row (P := P) w g t ty old cells hg hi hoc h1
    simp only [ho, hx, hy, Instr.storeAt, Instr.sureAddr, Sem.run_bind, Sem.run_pure, Result.andThen_ok]
    rw [hrun]
    exact hK _ _ h
theorem cellsN_size (n : Nat) (V : Nat → Value) : (cellsN n V).size = n := by simp [cellsN]
theorem cellsN_one (n : Nat) (V : Nat → Value) (h : ∀ i, (V i).oneCell' = true) : (cellsN n V).all (·.oneCell') = true :=
  Array.all_eq_true_iff_forall_mem.2 (fun v hv => by
    simp only [cellsN, List.mem_toArray, List.mem_map] at hv
    obtain ⟨i, _, rfl⟩ := hv
    exact h i)
theorem below_setRow' {B : Nat} {a w : World} (h : Below B a w) {g : Nat} (hg : B ≤ g) (cs : Array Value) : Below B a (w.setRow g cs) :=
  ⟨h.os, h.tape, h.output, by simpa using h.size, fun k hk => by rw [setRow_other _ _ _ _ (by omega)]; exact h.block k hk⟩

/-- What is below n; else 0. -/
def cutN (n : Nat) (L : Nat → Nat) : Nat → Nat := fun i => if i < n then L i else 0
theorem cutN_upd (n : Nat) (L : Nat → Nat) (j v : Nat) (hj : j < n) : upd (cutN n L) j v = cutN n (upd L j v) := by
  funext i; unfold upd cutN; by_cases e : i = j
  · subst e; simp [hj]
  · simp [e]
theorem cutN_le (n : Nat) (L : Nat → Nat) (h : ∀ i, L i ≤ i) (i : Nat) : cutN n L i ≤ i := by
  unfold cutN; split
  · exact h i
  · omega
theorem cutN_grow (L : Nat → Nat) (k : Nat) : upd (cutN k L) k (L k) = cutN (k + 1) L := by
  funext i; unfold upd cutN
  by_cases e : i = k
  · subst e; simp
  · rw [if_neg e]
    by_cases h : i < k
    · rw [if_pos h, if_pos (by omega)]
    · rw [if_neg h, if_neg (by omega)]
theorem root_cutN (n : Nat) (L : Nat → Nat) (c : Nat) (hc : c < n) : root (cutN n L) c = root L c := by
  induction c using Nat.strongRecOn with
  | ind c ih =>
    have e : cutN n L c = L c := by simp [cutN, hc]
    by_cases h : L c < c
    · rw [root_step _ _ (by rw [e]; exact h), e, ih _ h (by omega), root_step L c h]
    · rw [root_fix _ _ (by rw [e]; exact h), root_fix L c h]

end Go.Proofs.Ytcllnoigppkjiaa
