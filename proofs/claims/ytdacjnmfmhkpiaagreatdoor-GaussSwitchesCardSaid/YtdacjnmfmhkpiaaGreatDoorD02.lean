import Derived.Test.YtdacjnmfmhkpiaaGreatDoorD01
import Derived.Laws.Rows
import Derived.Laws.Tables
import Derived.Deep.AppendLies
/- Plain mathematics: union-find and connected components. -/
namespace Go.Proofs.YtdacjnmfmhkpiaaGreatDoor

def upd (L : Nat → Nat) (j v : Nat) : Nat → Nat := fun i => if i = j then v else L i
theorem upd_same (L : Nat → Nat) (j v : Nat) : upd L j v j = v := by simp [upd]
theorem upd_other (L : Nat → Nat) (j v i : Nat) (h : i ≠ j) : upd L j v i = L i := by simp [upd, h]

/-- The root of c. -/
def root (L : Nat → Nat) (c : Nat) : Nat := if L c < c then root L (L c) else c
  termination_by c

theorem root_le (L : Nat → Nat) (c : Nat) : root L c ≤ c := by
  induction c using Nat.strongRecOn with
  | ind c ih =>
    rw [root]; split
    · rename_i h; exact Nat.le_of_lt (Nat.lt_of_le_of_lt (ih _ h) h)
    · exact Nat.le_refl _
theorem root_fix (L : Nat → Nat) (c : Nat) (h : ¬ L c < c) : root L c = c := by rw [root, if_neg h]
theorem root_step (L : Nat → Nat) (c : Nat) (h : L c < c) : root L c = root L (L c) := by rw [root, if_pos h]
theorem root_is (L : Nat → Nat) (c : Nat) : ¬ L (root L c) < root L c := by
  induction c using Nat.strongRecOn with
  | ind c ih =>
    by_cases h : L c < c
    · rw [root_step L c h]; exact ih _ h
    · rw [root_fix L c h]; exact h
theorem root_root (L : Nat → Nat) (c : Nat) : root L (root L c) = root L c := root_fix L _ (root_is L c)

theorem root_union (L : Nat → Nat) (lo hi : Nat) (hlt : lo < hi) (hlo : ¬ L lo < lo) (hhi : ¬ L hi < hi) (c : Nat) :
    root (upd L hi lo) c = if root L c = hi then lo else root L c := by
  have hl : root (upd L hi lo) lo = lo := root_fix _ _ (by rw [upd_other _ _ _ _ (by omega)]; exact hlo)
  induction c using Nat.strongRecOn with
  | ind c ih =>
    by_cases e : c = hi
    · subst e
      rw [root_step _ _ (by rw [upd_same]; exact hlt), upd_same, hl, root_fix L c hhi, if_pos rfl]
    · by_cases h : L c < c
      · rw [root_step _ _ (by rw [upd_other _ _ _ _ e]; exact h), upd_other _ _ _ _ e, ih _ h, root_step L c h]
      · rw [root_fix _ _ (by rw [upd_other _ _ _ _ e]; exact h), root_fix L c h, if_neg e]

theorem root_compress (L : Nat → Nat) (c i : Nat) : root (upd L c (root L c)) i = root L i := by
  induction i using Nat.strongRecOn with
  | ind i ih =>
    by_cases e : i = c
    · subst e
      by_cases h : L i < i
      · have hr : root L i < i := by
          rw [root_step L i h]; exact Nat.lt_of_le_of_lt (root_le _ _) h
        rw [root_step _ _ (by rw [upd_same]; exact hr), upd_same, ih _ hr, root_root]
      · rw [root_fix _ _ (by rw [upd_same, root_fix L i h]; omega), root_fix L i h]
    · by_cases h : L i < i
      · rw [root_step _ _ (by rw [upd_other _ _ _ _ e]; exact h), upd_other _ _ _ _ e, ih _ h, root_step L i h]
      · rw [root_fix _ _ (by rw [upd_other _ _ _ _ e]; exact h), root_fix L i h]

/-- a and b are joined by edges; m: the mates of the half-edges below N. -/
inductive Conn (m : Nat → Nat) (N : Nat) : Nat → Nat → Prop
  | refl (a : Nat) : Conn m N a a
  | step {a : Nat} (h : Nat) : h < N → Conn m N a (h / 4) → Conn m N a (m h / 4)
  | back {a : Nat} (h : Nat) : h < N → Conn m N a (m h / 4) → Conn m N a (h / 4)
theorem Conn.trans {m : Nat → Nat} {N a b c : Nat} (h : Conn m N a b) (k : Conn m N b c) : Conn m N a c := by
  induction k with
  | refl => exact h
  | step i hi _ ih => exact .step i hi ih
  | back i hi _ ih => exact .back i hi ih
theorem Conn.symm {m : Nat → Nat} {N a b : Nat} (h : Conn m N a b) : Conn m N b a := by
  induction h with
  | refl => exact .refl _
  | step i hi _ ih => exact (Conn.back i hi (.refl _)).trans ih
  | back i hi _ ih => exact (Conn.step i hi (.refl _)).trans ih

/-- F is the least number of each component. -/
def IsLab (m : Nat → Nat) (N n : Nat) (F : Nat → Nat) : Prop := (∀ c, c < n → F c ≤ c ∧ Conn m N c (F c)) ∧ ∀ h, h < N → F (h / 4) = F (m h / 4)
theorem IsLab.conn {m : Nat → Nat} {N n : Nat} {F : Nat → Nat} (h : IsLab m N n F) {a b : Nat} (hc : Conn m N a b) : F a = F b := by
  induction hc with
  | refl => rfl
  | step i hi _ ih => rw [ih, h.2 i hi]
  | back i hi _ ih => rw [ih, h.2 i hi]
theorem IsLab.unique {m : Nat → Nat} {N n : Nat} {F G : Nat → Nat} (h : IsLab m N n F) (k : IsLab m N n G) (c : Nat) (hc : c < n) : F c = G c := by
  obtain ⟨f1, f2⟩ := h.1 c hc
  obtain ⟨g1, g2⟩ := k.1 c hc
  have e1 : F c = F (G c) := h.conn g2
  have e2 : G c = G (F c) := k.conn f2
  have := (h.1 (G c) (by omega)).1
  have := (k.1 (F c) (by omega)).1
  omega

/-- The union step at half-edge h, and the forest after the first k half-edges. -/
def ufStep (m : Nat → Nat) (L : Nat → Nat) (h : Nat) : Nat → Nat :=
  upd L (max (root L (h / 4)) (root L (m h / 4))) (min (root L (h / 4)) (root L (m h / 4)))
def ufAt (m : Nat → Nat) : Nat → Nat → Nat
  | 0 => fun i => i
  | k + 1 => ufStep m (ufAt m k) k
def ufLab (m : Nat → Nat) (N : Nat) (c : Nat) : Nat := root (ufAt m N) c

theorem root_ufStep (m : Nat → Nat) (L : Nat → Nat) (h c : Nat) :
    root (ufStep m L h) c = if root L c = max (root L (h / 4)) (root L (m h / 4)) then min (root L (h / 4)) (root L (m h / 4)) else root L c := by
  have ha := root_is L (h / 4)
  have hb := root_is L (m h / 4)
  unfold ufStep
  generalize root L (h / 4) = a at *
  generalize root L (m h / 4) = b at *
  rcases Nat.lt_trichotomy a b with hlt | rfl | hgt
  · rw [Nat.max_eq_right (by omega), Nat.min_eq_left (by omega)]; exact root_union L a b hlt ha hb c
  · rw [Nat.max_self, Nat.min_self]
    have : root (upd L a a) c = root L c := by
      have h0 : root L a = a := root_fix L a ha
      have := root_compress L a c
      rwa [h0] at this
    rw [this]; split <;> simp_all
  · rw [Nat.max_eq_left (by omega), Nat.min_eq_right (by omega)]; exact root_union L b a hgt hb ha c

theorem ufAt_conn (m : Nat → Nat) (N k : Nat) (hk : k ≤ N) (c : Nat) : Conn m N c (root (ufAt m k) c) := by
  induction k generalizing c with
  | zero => rw [root_fix _ _ (by simp [ufAt])]; exact .refl _
  | succ k ih =>
    show Conn m N c (root (ufStep m (ufAt m k) k) c)
    rw [root_ufStep]
    have h0 := ih (by omega)
    have e : Conn m N (root (ufAt m k) (k / 4)) (root (ufAt m k) (m k / 4)) :=
      ((h0 _).symm.trans (Conn.step k (by omega) (.refl _))).trans (h0 _)
    split
    · rename_i hc
      have hcc := h0 c
      rw [hc] at hcc
      refine hcc.trans ?_
      rcases Nat.le_total (root (ufAt m k) (k / 4)) (root (ufAt m k) (m k / 4)) with hle | hle
      · rw [Nat.max_eq_right hle, Nat.min_eq_left hle]; exact e.symm
      · rw [Nat.max_eq_left hle, Nat.min_eq_right hle]; exact e
    · exact h0 c

theorem ufAt_joins (m : Nat → Nat) (k h : Nat) (hh : h < k) : root (ufAt m k) (h / 4) = root (ufAt m k) (m h / 4) := by
  induction k with
  | zero => omega
  | succ k ih =>
    show root (ufStep m (ufAt m k) k) _ = root (ufStep m (ufAt m k) k) _
    rw [root_ufStep, root_ufStep]
    by_cases e : h = k
    · subst e
      rcases Nat.le_total (root (ufAt m h) (h / 4)) (root (ufAt m h) (m h / 4)) with hle | hle
      · rw [Nat.max_eq_right hle, Nat.min_eq_left hle]; simp only [if_pos]; split <;> rfl
      · rw [Nat.max_eq_left hle, Nat.min_eq_right hle]; simp only [if_pos]; split <;> simp_all
    · rw [ih (by omega)]

theorem ufLab_isLab (m : Nat → Nat) (N n : Nat) : IsLab m N n (ufLab m N) :=
  ⟨fun c _ => ⟨root_le _ _, ufAt_conn m N N (Nat.le_refl _) c⟩, fun h hh => ufAt_joins m N h hh⟩

theorem ufAt_le (m : Nat → Nat) (k i : Nat) : ufAt m k i ≤ i := by
  induction k generalizing i with
  | zero => exact Nat.le_refl _
  | succ k ih =>
    show upd _ _ _ i ≤ i
    unfold upd
    split
    · rename_i e; rw [e]; omega
    · exact ih i

/-- The compression of the first k numbers. -/
def compAt (L : Nat → Nat) (k : Nat) : Nat → Nat := fun i => if i < k then root L i else L i
theorem root_comp (L : Nat → Nat) (k i : Nat) : root (compAt L k) i = root L i := by
  induction i using Nat.strongRecOn with
  | ind i ih =>
    by_cases hk : i < k
    · have e : compAt L k i = root L i := by simp [compAt, hk]
      by_cases h : root L i < i
      · rw [root_step _ _ (by rw [e]; exact h), e, ih _ h, root_root]
      · rw [root_fix _ _ (by rw [e]; exact h)]
        have := root_le L i; omega
    · have e : compAt L k i = L i := by simp [compAt, hk]
      by_cases h : L i < i
      · rw [root_step _ _ (by rw [e]; exact h), e, ih _ h, root_step L i h]
      · rw [root_fix _ _ (by rw [e]; exact h), root_fix L i h]
theorem comp_zero (L : Nat → Nat) : compAt L 0 = L := by funext i; simp [compAt]
theorem comp_succ (L : Nat → Nat) (k : Nat) : upd (compAt L k) k (root (compAt L k) k) = compAt L (k + 1) := by
  funext i
  unfold upd
  split
  · rename_i e; subst e; rw [root_comp]; simp [compAt]
  · rename_i e
    unfold compAt
    by_cases h : i < k
    · rw [if_pos h, if_pos (by omega)]
    · rw [if_neg h, if_neg (by omega)]
theorem comp_le (L : Nat → Nat) (hL : ∀ i, L i ≤ i) (k i : Nat) : compAt L k i ≤ i := by
  unfold compAt; split
  · exact root_le _ _
  · exact hL i

end Go.Proofs.YtdacjnmfmhkpiaaGreatDoor

/- Words for memory: an array of the call's own. -/
namespace Go.Proofs.YtdacjnmfmhkpiaaGreatDoor
open Go.RowKit

def cellsN (n : Nat) (V : Nat → Value) : Array Value := ((List.range n).map V).toArray
theorem cellsN_get (n : Nat) (V : Nat → Value) (i : Nat) (h : i < n) : (cellsN n V)[i]? = some (V i) := by
  simp [cellsN, h]
theorem cellsN_set (n : Nat) (V : Nat → Value) (j : Nat) (u : Value) : (cellsN n V).setIfInBounds j u = cellsN n (fun i => if i = j then u else V i) := by
  apply Array.ext
  · simp [cellsN]
  · intro i h1 h2
    simp only [cellsN, List.getElem_toArray, List.getElem_map, List.getElem_range]
    by_cases e : j = i
    · subst e; simp
    · simp [e, Ne.symm e]
theorem cellsN_congr {n : Nat} {V V' : Nat → Value} (h : ∀ i, i < n → V i = V' i) : cellsN n V = cellsN n V' := by
  unfold cellsN
  congr 1
  exact List.map_congr_left fun i hi => h i (by simpa using hi)

/-- Block g is an array of n cells V 0, V 1, .. -/
def Arr (w : World) (g : Nat) (t : TypeId) (n : Nat) (V : Nat → Value) : Prop := w.heap[g]? = some (.cells (cellsN n V) t (0, 0))
abbrev iv (L : Nat → Nat) : Nat → Value := fun i => .int .i64 (L i : Nat)
abbrev zv (L : Nat → Int) : Nat → Value := fun i => .int .i64 (L i)
abbrev bv (S : Nat → Bool) : Nat → Value := fun i => .bool (S i)

section
variable {w w' : World} {g n : Nat} {t : TypeId} {V : Nat → Value}
theorem Arr.lt (h : Arr w g t n V) : g < w.heap.size := by
  rcases Nat.lt_or_ge g w.heap.size with hlt | hge
  · exact hlt
  · unfold Arr at h; rw [Array.getElem?_eq_none hge] at h; cases h
theorem Arr.cell (h : Arr w g t n V) (i : Nat) (hi : i < n) : w.cell? ⟨g, i, none⟩ = some (V i) := by
  rw [cell_of_row w g i _ t (0, 0) h, cellsN_get n V i hi]
theorem Arr.frozen (h : Arr w g t n V) (i : Nat) : w.frozen? ⟨g, i, none⟩ = false := frozen_of_row w g i _ t h
theorem Arr.drew (h : Arr w g t n V) : Arr w.drew g t n V := h
theorem Arr.alloc (h : Arr w g t n V) (o : Obj) : Arr (w.alloc o) g t n V := (Below.heap_alloc w o g h.lt).trans h
theorem Arr.new (w : World) (n : Nat) (t : TypeId) (V : Nat → Value) : Arr (w.alloc (.cells (cellsN n V) t)) w.heap.size t n V := heap_alloc_new w _
theorem Arr.set (h : Arr w g t n V) (j : Nat) (u : Value) : Arr (w.setCell ⟨g, j, none⟩ u) g t n (fun i => if i = j then u else V i) := by
  unfold Arr at h ⊢
  rw [← cellsN_set]
  simp [World.setCell, Array.getElem?_modify, h]
theorem Arr.far (h : Arr w g t n V) {p : Addr} (hp : g ≠ p.block) (u : Value) : Arr (w.setCell p u) g t n V := (Below.heap_setCell w p u g hp).trans h
theorem Arr.below {B : Nat} (h : Arr w g t n V) (hb : Below B w w') (hg : g < B) : Arr w' g t n V := (hb.block g hg).trans h
theorem Arr.keep (h : Arr w g t n V) (hb : Below w.heap.size w w') : Arr w' g t n V := h.below hb h.lt
theorem Arr.congr {V' : Nat → Value} (h : Arr w g t n V) (e : ∀ i, i < n → V i = V' i) : Arr w g t n V' := by
  unfold Arr at h ⊢; rw [h, cellsN_congr e]
end
theorem iv_set (L : Nat → Nat) (j v : Nat) : (fun i => if i = j then (.int .i64 (v : Nat) : Value) else iv L i) = iv (upd L j v) := by
  funext i; unfold upd iv; by_cases e : i = j <;> simp [e]
theorem Arr.seti {w : World} {g n : Nat} {t : TypeId} {L : Nat → Nat} (h : Arr w g t n (iv L)) (j v : Nat) : Arr (w.setCell ⟨g, j, none⟩ (.int .i64 (v : Nat))) g t n (iv (upd L j v)) := by
  have := h.set j (.int .i64 (v : Nat)); rwa [iv_set] at this

theorem DB.below {w w' : World} {g b : Nat} {A : Option Addr} {ns cs : Nat} {B : Option Addr} {nm cm : Nat} {lp : Int} (h : DB w g A ns cs B nm cm lp) (hb : Below b w w') (hg : g < b) : DB w' g A ns cs B nm cm lp :=
  ⟨(hb.cell (p := ⟨g, 0, none⟩) hg).trans h.1, (hb.cell (p := ⟨g, 1, none⟩) hg).trans h.2.1, (hb.cell (p := ⟨g, 2, none⟩) hg).trans h.2.2.1, Nat.lt_of_lt_of_le h.2.2.2 hb.size⟩
theorem zv_set (L : Nat → Int) (j : Nat) (v : Int) : (fun i => if i = j then (.int .i64 v : Value) else zv L i) = zv (fun i => if i = j then v else L i) := by
  funext i; unfold zv; by_cases e : i = j <;> simp [e]
theorem Arr.setz {w : World} {g n : Nat} {t : TypeId} {L : Nat → Int} (h : Arr w g t n (zv L)) (j : Nat) (v : Int) : Arr (w.setCell ⟨g, j, none⟩ (.int .i64 v)) g t n (zv fun i => if i = j then v else L i) := by
  have := h.set j (.int .i64 v); rwa [zv_set] at this
theorem bv_set (S : Nat → Bool) (j : Nat) (v : Bool) : (fun i => if i = j then (.bool v : Value) else bv S i) = bv (fun i => if i = j then v else S i) := by
  funext i; unfold bv; by_cases e : i = j <;> simp [e]
theorem Arr.setb {w : World} {g n : Nat} {t : TypeId} {S : Nat → Bool} (h : Arr w g t n (bv S)) (j : Nat) (v : Bool) : Arr (w.setCell ⟨g, j, none⟩ (.bool v)) g t n (bv fun i => if i = j then v else S i) := by
  have := h.set j (.bool v); rwa [bv_set] at this
theorem below_set {B : Nat} {a w : World} (h : Below B a w) {g i : Nat} (hg : B ≤ g) (u : Value) : Below B a (w.setCell ⟨g, i, none⟩ u) := h.setCell (p := ⟨g, i, none⟩) hg u

theorem zeros64 : #[Value.int .i64 0, Value.int .i64 0, Value.int .i64 0, Value.int .i64 0, Value.int .i64 0, Value.int .i64 0, Value.int .i64 0, Value.int .i64 0, Value.int .i64 0, Value.int .i64 0, Value.int .i64 0, Value.int .i64 0, Value.int .i64 0, Value.int .i64 0, Value.int .i64 0, Value.int .i64 0, Value.int .i64 0, Value.int .i64 0, Value.int .i64 0, Value.int .i64 0, Value.int .i64 0, Value.int .i64 0, Value.int .i64 0, Value.int .i64 0, Value.int .i64 0, Value.int .i64 0, Value.int .i64 0, Value.int .i64 0, Value.int .i64 0, Value.int .i64 0, Value.int .i64 0, Value.int .i64 0, Value.int .i64 0, Value.int .i64 0, Value.int .i64 0, Value.int .i64 0, Value.int .i64 0, Value.int .i64 0, Value.int .i64 0, Value.int .i64 0, Value.int .i64 0, Value.int .i64 0, Value.int .i64 0, Value.int .i64 0, Value.int .i64 0, Value.int .i64 0, Value.int .i64 0, Value.int .i64 0, Value.int .i64 0, Value.int .i64 0, Value.int .i64 0, Value.int .i64 0, Value.int .i64 0, Value.int .i64 0, Value.int .i64 0, Value.int .i64 0, Value.int .i64 0, Value.int .i64 0, Value.int .i64 0, Value.int .i64 0, Value.int .i64 0, Value.int .i64 0, Value.int .i64 0, Value.int .i64 0] = cellsN 64 (iv fun _ => 0) := rfl

theorem wpList_store_row {P : Program} {ops : Array Oper} {rest : List Oper} {op : Oper} {a : Act} {w : World} {Q : Exit → Act → World → Prop} (hgd : op.guard = none) (ty : TypeId) (x y : Operand) (ho : op.op = .store ty x y)
    (g : Nat) (t : TypeId) (old cells : Array Value) (hx : a.eval x = .pointer (some ⟨g, 0, none⟩)) (hy : a.eval y = .agg cells)
    (hg : w.heap[g]? = some (.cells old t (0, 0))) (hi : (P.info? ty).map (·.size) = some cells.size) (hoc : old.size = cells.size) (h1 : cells.all (·.oneCell') = true)
    (h : wpList P ops Q rest (a.put op.dst undef) (w.setRow g cells)) : wpList P ops Q (op :: rest) a w :=
  wpList_plain hgd fun _ hK => by
    unfold Oper.wp execOp
    have hrun := run_storeVar_row (P := P) w g t ty old cells hg hi hoc h1
    simp only [ho, hx, hy, Instr.storeAt, Instr.sureAddr, Sem.run_bind, Sem.run_pure, Result.andThen_ok]
    rw [hrun]
    exact hK _ _ h
theorem cellsN_size (n : Nat) (V : Nat → Value) : (cellsN n V).size = n := by simp [cellsN]
theorem cellsN_one (n : Nat) (V : Nat → Value) (h : ∀ i, (V i).oneCell' = true) : (cellsN n V).all (·.oneCell') = true :=
  Array.all_eq_true_iff_forall_mem.2 (fun v hv => by
    simp only [cellsN, List.mem_toArray, List.mem_map] at hv
    obtain ⟨i, _, rfl⟩ := hv
    exact h i)
theorem below_setRow' {B : Nat} {a w : World} (h : Below B a w) {g : Nat} (hg : B ≤ g) (cs : Array Value) : Below B a (w.setRow g cs) :=
  ⟨h.os, h.tape, h.output, by simpa using h.size, fun k hk => by rw [setRow_other _ _ _ _ (by omega)]; exact h.block k hk⟩

/-- What is below n; else 0. -/
def cutN (n : Nat) (L : Nat → Nat) : Nat → Nat := fun i => if i < n then L i else 0
theorem cutN_upd (n : Nat) (L : Nat → Nat) (j v : Nat) (hj : j < n) : upd (cutN n L) j v = cutN n (upd L j v) := by
  funext i; unfold upd cutN; by_cases e : i = j
  · subst e; simp [hj]
  · simp [e]
theorem cutN_le (n : Nat) (L : Nat → Nat) (h : ∀ i, L i ≤ i) (i : Nat) : cutN n L i ≤ i := by
  unfold cutN; split
  · exact h i
  · omega
theorem cutN_grow (L : Nat → Nat) (k : Nat) : upd (cutN k L) k (L k) = cutN (k + 1) L := by
  funext i; unfold upd cutN
  by_cases e : i = k
  · subst e; simp
  · rw [if_neg e]
    by_cases h : i < k
    · rw [if_pos h, if_pos (by omega)]
    · rw [if_neg h, if_neg (by omega)]
theorem root_cutN (n : Nat) (L : Nat → Nat) (c : Nat) (hc : c < n) : root (cutN n L) c = root L c := by
  induction c using Nat.strongRecOn with
  | ind c ih =>
    have e : cutN n L c = L c := by simp [cutN, hc]
    by_cases h : L c < c
    · rw [root_step _ _ (by rw [e]; exact h), e, ih _ h (by omega), root_step L c h]
    · rw [root_fix _ _ (by rw [e]; exact h), root_fix L c h]

end Go.Proofs.YtdacjnmfmhkpiaaGreatDoor

/- Plain mathematics: the cycles of a permutation of the numbers below N. -/
namespace Go.Proofs.YtdacjnmfmhkpiaaGreatDoor

def it (f : Nat → Nat) : Nat → Nat → Nat
  | 0, h => h
  | i + 1, h => f (it f i h)
theorem it_add (f : Nat → Nat) (i j h : Nat) : it f (i + j) h = it f i (it f j h) := by
  induction i with
  | zero => simp [it]
  | succ i ih => rw [Nat.succ_add]; show f _ = f _; rw [ih]

structure Perm (f : Nat → Nat) (N : Nat) : Prop where
  lt : ∀ h, h < N → f h < N
  inj : ∀ h g, h < N → g < N → f h = f g → h = g

theorem Perm.it_lt {f : Nat → Nat} {N : Nat} (p : Perm f N) {h : Nat} (hh : h < N) (i : Nat) : it f i h < N := by
  induction i with
  | zero => exact hh
  | succ i ih => exact p.lt _ ih
theorem Perm.it_inj {f : Nat → Nat} {N : Nat} (p : Perm f N) {h g : Nat} (hh : h < N) (hg : g < N) (i : Nat) (e : it f i h = it f i g) : h = g := by
  induction i with
  | zero => exact e
  | succ i ih => exact ih (p.inj _ _ (p.it_lt hh i) (p.it_lt hg i) e)

theorem pigeon (N : Nat) : ∀ g : Nat → Nat, (∀ i, i ≤ N → g i < N) → ∃ i j, i < j ∧ j ≤ N ∧ g i = g j := by
  induction N with
  | zero => intro g h; exact absurd (h 0 (Nat.le_refl _)) (by omega)
  | succ N ih =>
    intro g h
    by_cases hx : ∃ i, i ≤ N ∧ g i = g (N + 1)
    · obtain ⟨i, hi, e⟩ := hx
      exact ⟨i, N + 1, by omega, Nat.le_refl _, e⟩
    · have hne : ∀ i, i ≤ N → g i ≠ g (N + 1) := fun i hi e => hx ⟨i, hi, e⟩
      have hl := h (N + 1) (Nat.le_refl _)
      obtain ⟨i, j, hij, hj, e⟩ := ih (fun i => if g i = N then g (N + 1) else g i) (fun i hi => by
        have h1 := h i (by omega)
        have h2 := hne i hi
        show (if g i = N then g (N + 1) else g i) < N
        split <;> omega)
      refine ⟨i, j, hij, by omega, ?_⟩
      have h1 := hne i (by omega)
      have h2 := hne j hj
      have e' : (if g i = N then g (N + 1) else g i) = (if g j = N then g (N + 1) else g j) := e
      split at e' <;> split at e' <;> omega

theorem Perm.returns {f : Nat → Nat} {N : Nat} (p : Perm f N) {h : Nat} (hh : h < N) : ∃ q, q < N ∧ it f (q + 1) h = h := by
  obtain ⟨i, j, hij, hj, e⟩ := pigeon N (fun i => it f i h) (fun i _ => p.it_lt hh i)
  refine ⟨j - i - 1, by omega, ?_⟩
  have e' : it f i (it f (j - i) h) = it f i h := by rw [← it_add, show i + (j - i) = j by omega]; exact e.symm
  have := p.it_inj (p.it_lt hh _) hh i e'
  rw [show j - i - 1 + 1 = j - i by omega]; exact this

/-- The length of the cycle of h. -/
def per (f : Nat → Nat) (N h : Nat) : Nat := ((List.range N).find? (fun q => it f (q + 1) h == h)).getD 0 + 1
theorem per_pos (f : Nat → Nat) (N h : Nat) : 0 < per f N h := by unfold per; omega
theorem Perm.per_spec {f : Nat → Nat} {N : Nat} (p : Perm f N) {h : Nat} (hh : h < N) :
    it f (per f N h) h = h ∧ per f N h ≤ N ∧ ∀ q, 0 < q → q < per f N h → it f q h ≠ h := by
  obtain ⟨q, hq, e⟩ := p.returns hh
  unfold per
  cases hf : (List.range N).find? (fun q => it f (q + 1) h == h) with
  | none =>
    have := List.find?_eq_none.1 hf q (by simpa using hq)
    simp [e] at this
  | some r =>
    have hr := List.find?_some hf
    simp only [Option.getD_some]
    have hm : r < N := by have := List.mem_of_find?_eq_some hf; simpa using this
    refine ⟨by simpa using hr, by omega, fun q h0 hq e => ?_⟩
    obtain ⟨_, la, bs, hs, hall⟩ := List.find?_eq_some_iff_append.1 hf
    have hx : q - 1 ∈ la := by
      have hl : la.length = r := by
        have h1 : (List.range N)[la.length]? = some r := by rw [hs]; simp
        have h2 := List.getElem?_eq_some_iff.1 h1
        obtain ⟨h3, h4⟩ := h2
        simp at h4; omega
      have h1 : (List.range N)[q - 1]? = la[q - 1]? := by rw [hs, List.getElem?_append_left (by omega)]
      have h2 : (List.range N)[q - 1]? = some (q - 1) := by rw [List.getElem?_range]; omega
      rw [h2] at h1
      exact List.mem_of_getElem? h1.symm
    have := hall _ hx
    rw [show q - 1 + 1 = q by omega] at this
    simp [e] at this

theorem Perm.it_ne {f : Nat → Nat} {N : Nat} (p : Perm f N) {h : Nat} (hh : h < N) {i j : Nat} (hij : i < j) (hj : j < per f N h) : it f i h ≠ it f j h := fun e => by
  have e' : it f i (it f (j - i) h) = it f i h := by rw [← it_add, show i + (j - i) = j by omega]; exact e.symm
  exact (p.per_spec hh).2.2 (j - i) (by omega) (by omega) (p.it_inj (p.it_lt hh _) hh i e')

/-- g is on the cycle of h. -/
def Orb (f : Nat → Nat) (h g : Nat) : Prop := ∃ i, it f i h = g
theorem Perm.orb_lt {f : Nat → Nat} {N : Nat} (p : Perm f N) {h g : Nat} (hh : h < N) (o : Orb f h g) : ∃ i, i < per f N h ∧ it f i h = g := by
  obtain ⟨i, rfl⟩ := o
  induction i using Nat.strongRecOn with
  | ind i ih =>
    by_cases hi : i < per f N h
    · exact ⟨i, hi, rfl⟩
    · obtain ⟨j, hj, e⟩ := ih (i - per f N h) (by have := per_pos f N h; omega)
      refine ⟨j, hj, ?_⟩
      rw [e]
      have := it_add f (i - per f N h) (per f N h) h
      rw [(p.per_spec hh).1, show i - per f N h + per f N h = i by omega] at this
      exact this.symm
theorem Orb.refl (f : Nat → Nat) (h : Nat) : Orb f h h := ⟨0, rfl⟩
theorem Orb.trans {f : Nat → Nat} {a b c : Nat} (h : Orb f a b) (k : Orb f b c) : Orb f a c := by
  obtain ⟨i, rfl⟩ := h
  obtain ⟨j, rfl⟩ := k
  exact ⟨j + i, it_add f j i a⟩
theorem Perm.orb_symm {f : Nat → Nat} {N : Nat} (p : Perm f N) {h g : Nat} (hh : h < N) (o : Orb f h g) : Orb f g h := by
  obtain ⟨i, hi, rfl⟩ := p.orb_lt hh o
  refine ⟨per f N h - i, ?_⟩
  rw [← it_add, show per f N h - i + i = per f N h by omega]
  exact (p.per_spec hh).1

/-- The cycle that begins with h. -/
def cyc (f : Nat → Nat) (N h : Nat) : List Nat := (List.range (per f N h)).map (it f · h)
/-- Is h the least of its cycle? -/
def fst (f : Nat → Nat) (N h : Nat) : Bool := (cyc f N h).all (fun g => decide (h ≤ g))
theorem Perm.mem_cyc {f : Nat → Nat} {N : Nat} (p : Perm f N) {h : Nat} (hh : h < N) (g : Nat) : g ∈ cyc f N h ↔ Orb f h g := by
  unfold cyc
  simp only [List.mem_map, List.mem_range]
  constructor
  · rintro ⟨i, _, e⟩; exact ⟨i, e⟩
  · exact fun o => p.orb_lt hh o
theorem Perm.fst_iff {f : Nat → Nat} {N : Nat} (p : Perm f N) {h : Nat} (hh : h < N) : fst f N h = true ↔ ∀ h', h' < h → ¬ Orb f h' h := by
  unfold fst
  rw [List.all_eq_true]
  constructor
  · intro H h' hlt o
    have := H h' ((p.mem_cyc hh h').2 (p.orb_symm (by omega) o))
    simp at this; omega
  · intro H g hg
    have o := (p.mem_cyc hh g).1 hg
    obtain ⟨i, _, e⟩ := p.orb_lt hh o
    have hgN : g < N := by rw [← e]; exact p.it_lt hh i
    simp only [decide_eq_true_eq]
    by_cases hlt : g < h
    · exact absurd (p.orb_symm hh o) (H g hlt)
    · omega

/-- Faces and crossings with the label l; the count for each component. -/
def cntF (F f : Nat → Nat) (N k l : Nat) : Nat := (List.range k).countP (fun h => fst f N h && F (h / 4) == l)
def cntV (F : Nat → Nat) (k l : Nat) : Nat := (List.range k).countP (fun c => F c == l)
theorem cntF_succ (F f : Nat → Nat) (N k l : Nat) : cntF F f N (k + 1) l = cntF F f N k l + if fst f N k && F (k / 4) == l then 1 else 0 := by
  unfold cntF; rw [List.range_succ, List.countP_append]; simp [List.countP_cons]
theorem cntV_succ (F : Nat → Nat) (k l : Nat) : cntV F (k + 1) l = cntV F k l + if F k == l then 1 else 0 := by
  unfold cntV; rw [List.range_succ, List.countP_append]; simp [List.countP_cons]
def sphB (F f : Nat → Nat) (N n : Nat) : Bool := (List.range n).all fun c => decide (cntF F f N N (F c) = cntV F n (F c) + 2)
theorem cntF_congr {F G f : Nat → Nat} {N n k : Nat} (h : ∀ c, c < n → F c = G c) (hk : k ≤ 4 * n) (l : Nat) : cntF F f N k l = cntF G f N k l := by
  induction k with
  | zero => rfl
  | succ k ih => rw [cntF_succ, cntF_succ, ih (by omega), h (k / 4) (by omega)]
theorem cntV_congr {F G : Nat → Nat} {n k : Nat} (h : ∀ c, c < n → F c = G c) (hk : k ≤ n) (l : Nat) : cntV F k l = cntV G k l := by
  induction k with
  | zero => rfl
  | succ k ih => rw [cntV_succ, cntV_succ, ih (by omega), h k (by omega)]
theorem sphB_iff (F f : Nat → Nat) (N n : Nat) : sphB F f N n = true ↔ ∀ c, c < n → cntF F f N N (F c) = cntV F n (F c) + 2 := by
  unfold sphB; simp [List.all_eq_true]
theorem sphB_congr {F G f : Nat → Nat} {n : Nat} (h : ∀ c, c < n → F c = G c) : sphB F f (4 * n) n = sphB G f (4 * n) n := by
  rw [Bool.eq_iff_iff, sphB_iff, sphB_iff]
  constructor <;> intro H c hc <;> have := H c hc
  · rw [h c hc, cntF_congr h (Nat.le_refl _), cntV_congr h (Nat.le_refl _)] at this; exact this
  · rw [h c hc, cntF_congr h (Nat.le_refl _), cntV_congr h (Nat.le_refl _)]; exact this

/-- The turn of a half-edge by s slots. -/
def trn (h s : Nat) : Nat := h - h % 4 + (h % 4 + s) % 4
theorem trn_lt {h s n : Nat} (hh : h < 4 * n) : trn h s < 4 * n := by unfold trn; omega
theorem trn_div (h s : Nat) : trn h s / 4 = h / 4 := by unfold trn; omega
theorem trn_inj {s a b : Nat} (e : trn a s = trn b s) : a = b := by unfold trn at e; omega

/-- m is an involution of the half-edges below N. -/
structure Invol (m : Nat → Nat) (N : Nat) : Prop where
  lt : ∀ h, h < N → m h < N
  inv : ∀ h, h < N → m (m h) = h
theorem Invol.perm {m : Nat → Nat} {n : Nat} (i : Invol m (4 * n)) (s : Nat) : Perm (fun h => trn (m h) s) (4 * n) :=
  ⟨fun h hh => trn_lt (i.lt h hh), fun h g hh hg e => by
    have := trn_inj e
    rw [← i.inv h hh, ← i.inv g hg, this]⟩

end Go.Proofs.YtdacjnmfmhkpiaaGreatDoor

/- Words for memory: a slice of ints that the call made. -/
namespace Go.Proofs.YtdacjnmfmhkpiaaGreatDoor
open Go.RowKit

theorem Tryz.infoInt : (Tryz.prog.info? 3).map (fun i => (i.zero, i.size, i.bytes)) = some (some (.int .i64 0), 1, 8) := by kernel_rfl

abbrev ints (xs : List Int) : List Value := xs.map (Value.int .i64)
/-- v is a slice of the call's own (in a block from B on) that reads as xs. -/
def OI (w : World) (B : Nat) (v : Value) (xs : List Int) : Prop := w.ownsRow B 3 1 v xs.length (ints xs)
theorem OI.grown {w w' : World} {B : Nat} {v : Value} {xs : List Int} (h : OI w B v xs) {row : Option Nat} (hg : w.grownBy w' row) (hne : v.ownBlock = none ∨ v.ownBlock ≠ row) : OI w' B v xs := World.ownsRow.kept h hg hne
theorem grown_of_below {w w' : World} (h : Below w.heap.size w w') : w.grownBy w' none := ⟨h.os, h.tape, h.output, h.size, fun k hk _ => h.block k hk⟩
theorem OI.keep {w w' : World} {B : Nat} {v : Value} {xs : List Int} (h : OI w B v xs) (hb : Below w.heap.size w w') : OI w' B v xs :=
  h.grown (grown_of_below hb) (by cases e : v.ownBlock <;> simp)
theorem OI.alloc {w : World} {B : Nat} {v : Value} {xs : List Int} (h : OI w B v xs) (o : Obj) : OI (w.alloc o) B v xs := h.keep (below_alloc _ _)
theorem OI.mono {w : World} {B B' : Nat} {v : Value} {xs : List Int} (h : OI w B v xs) (hB : B' ≤ B) : OI w B' v xs := by
  refine ⟨h.1, h.2.imp id ?_⟩
  rintro ⟨g, cap, cur, h1, h2, h3⟩
  exact ⟨g, cap, cur, h1, by omega, h3⟩
theorem OI.far {w : World} {B : Nat} {v : Value} {xs : List Int} (h : OI w B v xs) {p : Addr} (hp : v.ownBlock ≠ some p.block) (u : Value) : OI (w.setCell p u) B v xs := by
  refine ⟨h.1, h.2.imp id ?_⟩
  rintro ⟨g, cap, cur, rfl, h2, h3, h4⟩
  exact ⟨g, cap, cur, rfl, h2, (Below.heap_setCell w p u g (by rintro rfl; exact hp rfl)).trans h3, h4⟩
theorem OI.form {w : World} {B : Nat} {v : Value} {xs : List Int} (h : OI w B v xs) : (v = .slice none 0 0 ∧ xs = []) ∨ ∃ g cap, v = .slice (some ⟨g, 0, none⟩) xs.length cap ∧ B ≤ g ∧ g < w.heap.size := by
  rcases h.2 with ⟨h1, h2⟩ | ⟨g, cap, cur, h1, h2, h3, _⟩
  · exact .inl ⟨h1, List.length_eq_zero_iff.1 h2⟩
  · refine .inr ⟨g, cap, h1, h2, ?_⟩
    rcases Nat.lt_or_ge g w.heap.size with hlt | hge
    · exact hlt
    · rw [Array.getElem?_eq_none hge] at h3; cases h3
theorem OI.form_pos {w : World} {B n : Nat} {v : Value} {xs : List Int} (h : OI w B v xs) (hl : xs.length = n) (hn : 0 < n) : ∃ g cap, v = .slice (some ⟨g, 0, none⟩) n cap := by
  rcases h.form with ⟨_, rfl⟩ | ⟨g, cap, h1, _⟩
  · simp at hl; omega
  · exact ⟨g, cap, by rw [h1, hl]⟩
theorem OI.nil (w : World) (B : Nat) : OI w B (.slice none 0 0) [] := World.ownsRow_nil w B _ _
theorem OI.one (w : World) (B : Nat) (x : Int) (hB : B ≤ w.heap.size) : OI (w.alloc (.cells #[.int .i64 x] 3)) B (.slice (some ⟨w.heap.size, 0, none⟩) 1 1) [x] :=
  World.ownsRow_lit w #[.int .i64 x] 1 hB (by simp [maxLen]) rfl
theorem OI.cell {w : World} {B g n cap : Nat} {xs : List Int} (h : OI w B (.slice (some ⟨g, 0, none⟩) n cap) xs) (j : Nat) (hj : j < xs.length) : w.cell? ⟨g, j, none⟩ = some (.int .i64 (xs.getD j 0)) := by
  have hn : n = xs.length := by
    rcases h.2 with ⟨h1, _⟩ | ⟨g', cap', cur, h1, _⟩
    · cases h1
    · injection h1
  subst hn
  have := World.ownsRow.cellAt h j (by omega)
  rw [this]
  simp [ints, List.getD, hj]
theorem OI.ri {w : World} {B : Nat} {A : Option Addr} {n c : Nat} {xs : List Int} (h : OI w B (.slice A n c) xs) : RI w A n xs := by
  rcases h.form with ⟨h1, rfl⟩ | ⟨g, cap, h1, _, hlt⟩
  · injection h1 with h1 h2 h3; subst h1; subst h2; exact RI.nil _ _
  · injection h1 with h1 h2 h3; subst h1; subst h2; subst h3
    exact ⟨rfl, fun _ => ⟨g, 0, rfl, hlt, fun j hj => by rw [Nat.zero_add]; exact h.cell j hj⟩⟩

/-- append of one int to a slice of the call's own. -/
theorem wpList_append_int {ops : Array Oper} {rest : List Oper} {o : Oper} {a : Act} {w : World} {Q : Exit → Act → World → Prop} (hgd : o.guard = none) (s x : Operand)
    (ho : o.op = .call { callee := .builtin .append, args := #[s, x], argTypes := #[22, 22] }) (B : Nat) (v : Value) (xs : List Int) (hs : a.eval s = v) (hown : OI w B v xs)
    (g : Nat) (y : Int) (hx : a.eval x = .slice (some ⟨g, 0, none⟩) 1 1) (hc : w.cell? ⟨g, 0, none⟩ = some (.int .i64 y)) (hlen : xs.length ≤ 1000000000) (hbase : B ≤ w.heap.size)
    (h : ∀ v' w', OI w' B v' (xs ++ [y]) → w.grownBy w' v.ownBlock → wpList Tryz.prog ops Q rest (a.put o.dst v') w') : wpList Tryz.prog ops Q (o :: rest) a w := by
  obtain ⟨i0, hi, hz0, hz1, hz2⟩ := info_parts Tryz.infoInt
  refine wpList_append_own w hgd s x 22 ho B 3 i0 (.int .i64 0) 1 8 Tryz.underlying22 hi hz0 hz1 hz2 rfl (by decide) v xs.length (ints xs) hs hown ⟨g, 0, none⟩ 1 1 [.int .i64 y] hx rfl ?_ ?_ (by unfold maxLen; omega) (by omega) hbase ?_
  · intro j u hj
    match j, hj with
    | 0, hj => simp at hj; subst hj; simpa [Addr.add] using hc
  · intro u hu; simp at hu; subst hu; rfl
  · intro v' w' h1 h2 _
    refine h v' w' ?_ h2
    unfold OI
    simpa [ints] using h1

end Go.Proofs.YtdacjnmfmhkpiaaGreatDoor
