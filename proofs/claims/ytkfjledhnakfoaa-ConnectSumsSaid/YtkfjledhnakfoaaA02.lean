import Derived.Test.YtkfjledhnakfoaaA01
import Derived.Laws.Rows
import Derived.Laws.Tables
import Derived.Deep.AppendLies
/- Words for memory: an array of the call's own. -/
namespace Go.Proofs.Ytkfjledhnakfoaa
open Go.RowKit

def cellsN (n : Nat) (V : Nat → Value) : Array Value := ((List.range n).map V).toArray
theorem cellsN_get (n : Nat) (V : Nat → Value) (i : Nat) (h : i < n) : (cellsN n V)[i]? = some (V i) := by
  simp [cellsN, h]
theorem cellsN_set (n : Nat) (V : Nat → Value) (j : Nat) (u : Value) : (cellsN n V).setIfInBounds j u = cellsN n (fun i => if i = j then u else V i) := by
  apply Array.ext
  · simp [cellsN]
  · intro i h1 h2
    simp only [cellsN, List.getElem_toArray, List.getElem_map, List.getElem_range]
    by_cases e : j = i
    · subst e; simp
    · simp [e, Ne.symm e]
theorem cellsN_congr {n : Nat} {V V' : Nat → Value} (h : ∀ i, i < n → V i = V' i) : cellsN n V = cellsN n V' := by
  unfold cellsN
  congr 1
  exact List.map_congr_left fun i hi => h i (by simpa using hi)

/-- Block g is an array of n cells V 0, V 1, .. -/
def Arr (w : World) (g : Nat) (t : TypeId) (n : Nat) (V : Nat → Value) : Prop := w.heap[g]? = some (.cells (cellsN n V) t (0, 0))
abbrev iv (L : Nat → Nat) : Nat → Value := fun i => .int .i64 (L i : Nat)
abbrev zv (L : Nat → Int) : Nat → Value := fun i => .int .i64 (L i)
abbrev bv (S : Nat → Bool) : Nat → Value := fun i => .bool (S i)

section
variable {w w' : World} {g n : Nat} {t : TypeId} {V : Nat → Value}
theorem Arr.lt (h : Arr w g t n V) : g < w.heap.size := by
  rcases Nat.lt_or_ge g w.heap.size with hlt | hge
  · exact hlt
  · unfold Arr at h; rw [Array.getElem?_eq_none hge] at h; cases h
theorem Arr.cell (h : Arr w g t n V) (i : Nat) (hi : i < n) : w.cell? ⟨g, i, none⟩ = some (V i) := by
  rw [cell_of_row w g i _ t (0, 0) h, cellsN_get n V i hi]
theorem Arr.frozen (h : Arr w g t n V) (i : Nat) : w.frozen? ⟨g, i, none⟩ = false := frozen_of_row w g i _ t h
theorem Arr.drew (h : Arr w g t n V) : Arr w.drew g t n V := h
theorem Arr.alloc (h : Arr w g t n V) (o : Obj) : Arr (w.alloc o) g t n V := (Below.heap_alloc w o g h.lt).trans h
theorem Arr.new (w : World) (n : Nat) (t : TypeId) (V : Nat → Value) : Arr (w.alloc (.cells (cellsN n V) t)) w.heap.size t n V := heap_alloc_new w _
theorem Arr.set (h : Arr w g t n V) (j : Nat) (u : Value) : Arr (w.setCell ⟨g, j, none⟩ u) g t n (fun i => if i = j then u else V i) := by
  unfold Arr at h ⊢
  rw [← cellsN_set]
  simp [World.setCell, Array.getElem?_modify, h]
theorem Arr.far (h : Arr w g t n V) {p : Addr} (hp : g ≠ p.block) (u : Value) : Arr (w.setCell p u) g t n V := (Below.heap_setCell w p u g hp).trans h
theorem Arr.below {B : Nat} (h : Arr w g t n V) (hb : Below B w w') (hg : g < B) : Arr w' g t n V := (hb.block g hg).trans h
theorem Arr.keep (h : Arr w g t n V) (hb : Below w.heap.size w w') : Arr w' g t n V := h.below hb h.lt
theorem Arr.congr {V' : Nat → Value} (h : Arr w g t n V) (e : ∀ i, i < n → V i = V' i) : Arr w g t n V' := by
  unfold Arr at h ⊢; rw [h, cellsN_congr e]
end
theorem iv_set (L : Nat → Nat) (j v : Nat) : (fun i => if i = j then (.int .i64 (v : Nat) : Value) else iv L i) = iv (upd L j v) := by
  funext i; unfold upd iv; by_cases e : i = j <;> simp [e]
theorem Arr.seti {w : World} {g n : Nat} {t : TypeId} {L : Nat → Nat} (h : Arr w g t n (iv L)) (j v : Nat) : Arr (w.setCell ⟨g, j, none⟩ (.int .i64 (v : Nat))) g t n (iv (upd L j v)) := by
  have := h.set j (.int .i64 (v : Nat)); rwa [iv_set] at this

theorem DB.below {w w' : World} {g b : Nat} {A : Option Addr} {ns cs : Nat} {B : Option Addr} {nm cm : Nat} {lp : Int} (h : DB w g A ns cs B nm cm lp) (hb : Below b w w') (hg : g < b) : DB w' g A ns cs B nm cm lp :=
  ⟨(hb.cell (p := ⟨g, 0, none⟩) hg).trans h.1, (hb.cell (p := ⟨g, 1, none⟩) hg).trans h.2.1, (hb.cell (p := ⟨g, 2, none⟩) hg).trans h.2.2.1, Nat.lt_of_lt_of_le h.2.2.2 hb.size⟩
theorem zv_set (L : Nat → Int) (j : Nat) (v : Int) : (fun i => if i = j then (.int .i64 v : Value) else zv L i) = zv (fun i => if i = j then v else L i) := by
  funext i; unfold zv; by_cases e : i = j <;> simp [e]
theorem Arr.setz {w : World} {g n : Nat} {t : TypeId} {L : Nat → Int} (h : Arr w g t n (zv L)) (j : Nat) (v : Int) : Arr (w.setCell ⟨g, j, none⟩ (.int .i64 v)) g t n (zv fun i => if i = j then v else L i) := by
  have := h.set j (.int .i64 v); rwa [zv_set] at this
theorem bv_set (S : Nat → Bool) (j : Nat) (v : Bool) : (fun i => if i = j then (.bool v : Value) else bv S i) = bv (fun i => if i = j then v else S i) := by
  funext i; unfold bv; by_cases e : i = j <;> simp [e]
theorem Arr.setb {w : World} {g n : Nat} {t : TypeId} {S : Nat → Bool} (h : Arr w g t n (bv S)) (j : Nat) (v : Bool) : Arr (w.setCell ⟨g, j, none⟩ (.bool v)) g t n (bv fun i => if i = j then v else S i) := by
  have := h.set j (.bool v); rwa [bv_set] at this
theorem below_set {B : Nat} {a w : World} (h : Below B a w) {g i : Nat} (hg : B ≤ g) (u : Value) : Below B a (w.setCell ⟨g, i, none⟩ u) := h.setCell (p := ⟨g, i, none⟩) hg u

theorem zeros64 : #[Value.int .i64 0, Value.int .i64 0, Value.int .i64 0, Value.int .i64 0, Value.int .i64 0, Value.int .i64 0, Value.int .i64 0, Value.int .i64 0, Value.int .i64 0, Value.int .i64 0, Value.int .i64 0, Value.int .i64 0, Value.int .i64 0, Value.int .i64 0, Value.int .i64 0, Value.int .i64 0, Value.int .i64 0, Value.int .i64 0, Value.int .i64 0, Value.int .i64 0, Value.int .i64 0, Value.int .i64 0, Value.int .i64 0, Value.int .i64 0, Value.int .i64 0, Value.int .i64 0, Value.int .i64 0, Value.int .i64 0, Value.int .i64 0, Value.int .i64 0, Value.int .i64 0, Value.int .i64 0, Value.int .i64 0, Value.int .i64 0, Value.int .i64 0, Value.int .i64 0, Value.int .i64 0, Value.int .i64 0, Value.int .i64 0, Value.int .i64 0, Value.int .i64 0, Value.int .i64 0, Value.int .i64 0, Value.int .i64 0, Value.int .i64 0, Value.int .i64 0, Value.int .i64 0, Value.int .i64 0, Value.int .i64 0, Value.int .i64 0, Value.int .i64 0, Value.int .i64 0, Value.int .i64 0, Value.int .i64 0, Value.int .i64 0, Value.int .i64 0, Value.int .i64 0, Value.int .i64 0, Value.int .i64 0, Value.int .i64 0, Value.int .i64 0, Value.int .i64 0, Value.int .i64 0, Value.int .i64 0] = cellsN 64 (iv fun _ => 0) := rfl

theorem wpList_store_row {P : Program} {ops : Array Oper} {rest : List Oper} {op : Oper} {a : Act} {w : World} {Q : Exit → Act → World → Prop} (hgd : op.guard = none) (ty : TypeId) (x y : Operand) (ho : op.op = .store ty x y)
    (g : Nat) (t : TypeId) (old cells : Array Value) (hx : a.eval x = .pointer (some ⟨g, 0, none⟩)) (hy : a.eval y = .agg cells)
    (hg : w.heap[g]? = some (.cells old t (0, 0))) (hi : (P.info? ty).map (·.size) = some cells.size) (hoc : old.size = cells.size) (h1 : cells.all (·.oneCell') = true)
    (h : wpList P ops Q rest (a.put op.dst undef) (w.setRow g cells)) : wpList P ops Q (op :: rest) a w :=
  wpList_plain hgd fun _ hK => by
    unfold Oper.wp execOp
    have hrun := run_storeVar_row (P := P) w g t ty old cells hg hi hoc h1
    simp only [ho, hx, hy, Instr.storeAt, Instr.sureAddr, Sem.run_bind, Sem.run_pure, Result.andThen_ok]
    rw [hrun]
    exact hK _ _ h
theorem cellsN_size (n : Nat) (V : Nat → Value) : (cellsN n V).size = n := by simp [cellsN]
theorem cellsN_one (n : Nat) (V : Nat → Value) (h : ∀ i, (V i).oneCell' = true) : (cellsN n V).all (·.oneCell') = true :=
  Array.all_eq_true_iff_forall_mem.2 (fun v hv => by
    simp only [cellsN, List.mem_toArray, List.mem_map] at hv
    obtain ⟨i, _, rfl⟩ := hv
    exact h i)
theorem below_setRow' {B : Nat} {a w : World} (h : Below B a w) {g : Nat} (hg : B ≤ g) (cs : Array Value) : Below B a (w.setRow g cs) :=
  ⟨h.os, h.tape, h.output, by simpa using h.size, fun k hk => by rw [setRow_other _ _ _ _ (by omega)]; exact h.block k hk⟩

/-- What is below n; else 0. -/
def cutN (n : Nat) (L : Nat → Nat) : Nat → Nat := fun i => if i < n then L i else 0
theorem cutN_upd (n : Nat) (L : Nat → Nat) (j v : Nat) (hj : j < n) : upd (cutN n L) j v = cutN n (upd L j v) := by
  funext i; unfold upd cutN; by_cases e : i = j
  · subst e; simp [hj]
  · simp [e]
theorem cutN_le (n : Nat) (L : Nat → Nat) (h : ∀ i, L i ≤ i) (i : Nat) : cutN n L i ≤ i := by
  unfold cutN; split
  · exact h i
  · omega
theorem cutN_grow (L : Nat → Nat) (k : Nat) : upd (cutN k L) k (L k) = cutN (k + 1) L := by
  funext i; unfold upd cutN
  by_cases e : i = k
  · subst e; simp
  · rw [if_neg e]
    by_cases h : i < k
    · rw [if_pos h, if_pos (by omega)]
    · rw [if_neg h, if_neg (by omega)]
theorem root_cutN (n : Nat) (L : Nat → Nat) (c : Nat) (hc : c < n) : root (cutN n L) c = root L c := by
  induction c using Nat.strongRecOn with
  | ind c ih =>
    have e : cutN n L c = L c := by simp [cutN, hc]
    by_cases h : L c < c
    · rw [root_step _ _ (by rw [e]; exact h), e, ih _ h (by omega), root_step L c h]
    · rw [root_fix _ _ (by rw [e]; exact h), root_fix L c h]

end Go.Proofs.Ytkfjledhnakfoaa

/- Plain mathematics: the cycles of a permutation of the numbers below N. -/
namespace Go.Proofs.Ytkfjledhnakfoaa

def it (f : Nat → Nat) : Nat → Nat → Nat
  | 0, h => h
  | i + 1, h => f (it f i h)
theorem it_add (f : Nat → Nat) (i j h : Nat) : it f (i + j) h = it f i (it f j h) := by
  induction i with
  | zero => simp [it]
  | succ i ih => rw [Nat.succ_add]; show f _ = f _; rw [ih]

structure Perm (f : Nat → Nat) (N : Nat) : Prop where
  lt : ∀ h, h < N → f h < N
  inj : ∀ h g, h < N → g < N → f h = f g → h = g

theorem Perm.it_lt {f : Nat → Nat} {N : Nat} (p : Perm f N) {h : Nat} (hh : h < N) (i : Nat) : it f i h < N := by
  induction i with
  | zero => exact hh
  | succ i ih => exact p.lt _ ih
theorem Perm.it_inj {f : Nat → Nat} {N : Nat} (p : Perm f N) {h g : Nat} (hh : h < N) (hg : g < N) (i : Nat) (e : it f i h = it f i g) : h = g := by
  induction i with
  | zero => exact e
  | succ i ih => exact ih (p.inj _ _ (p.it_lt hh i) (p.it_lt hg i) e)

theorem pigeon (N : Nat) : ∀ g : Nat → Nat, (∀ i, i ≤ N → g i < N) → ∃ i j, i < j ∧ j ≤ N ∧ g i = g j := by
  induction N with
  | zero => intro g h; exact absurd (h 0 (Nat.le_refl _)) (by omega)
  | succ N ih =>
    intro g h
    by_cases hx : ∃ i, i ≤ N ∧ g i = g (N + 1)
    · obtain ⟨i, hi, e⟩ := hx
      exact ⟨i, N + 1, by omega, Nat.le_refl _, e⟩
    · have hne : ∀ i, i ≤ N → g i ≠ g (N + 1) := fun i hi e => hx ⟨i, hi, e⟩
      have hl := h (N + 1) (Nat.le_refl _)
      obtain ⟨i, j, hij, hj, e⟩ := ih (fun i => if g i = N then g (N + 1) else g i) (fun i hi => by
        have h1 := h i (by omega)
        have h2 := hne i hi
        show (if g i = N then g (N + 1) else g i) < N
        split <;> omega)
      refine ⟨i, j, hij, by omega, ?_⟩
      have h1 := hne i (by omega)
      have h2 := hne j hj
      have e' : (if g i = N then g (N + 1) else g i) = (if g j = N then g (N + 1) else g j) := e
      split at e' <;> split at e' <;> omega

theorem Perm.returns {f : Nat → Nat} {N : Nat} (p : Perm f N) {h : Nat} (hh : h < N) : ∃ q, q < N ∧ it f (q + 1) h = h := by
  obtain ⟨i, j, hij, hj, e⟩ := pigeon N (fun i => it f i h) (fun i _ => p.it_lt hh i)
  refine ⟨j - i - 1, by omega, ?_⟩
  have e' : it f i (it f (j - i) h) = it f i h := by rw [← it_add, show i + (j - i) = j by omega]; exact e.symm
  have := p.it_inj (p.it_lt hh _) hh i e'
  rw [show j - i - 1 + 1 = j - i by omega]; exact this

/-- The length of the cycle of h. -/
def per (f : Nat → Nat) (N h : Nat) : Nat := ((List.range N).find? (fun q => it f (q + 1) h == h)).getD 0 + 1
theorem per_pos (f : Nat → Nat) (N h : Nat) : 0 < per f N h := by unfold per; omega
theorem Perm.per_spec {f : Nat → Nat} {N : Nat} (p : Perm f N) {h : Nat} (hh : h < N) :
    it f (per f N h) h = h ∧ per f N h ≤ N ∧ ∀ q, 0 < q → q < per f N h → it f q h ≠ h := by
  obtain ⟨q, hq, e⟩ := p.returns hh
  unfold per
  cases hf : (List.range N).find? (fun q => it f (q + 1) h == h) with
  | none =>
    have := List.find?_eq_none.1 hf q (by simpa using hq)
    simp [e] at this
  | some r =>
    have hr := List.find?_some hf
    simp only [Option.getD_some]
    have hm : r < N := by have := List.mem_of_find?_eq_some hf; simpa using this
    refine ⟨by simpa using hr, by omega, fun q h0 hq e => ?_⟩
    obtain ⟨_, la, bs, hs, hall⟩ := List.find?_eq_some_iff_append.1 hf
    have hx : q - 1 ∈ la := by
      have hl : la.length = r := by
        have h1 : (List.range N)[la.length]? = some r := by rw [hs]; simp
        have h2 := List.getElem?_eq_some_iff.1 h1
        obtain ⟨h3, h4⟩ := h2
        simp at h4; omega
      have h1 : (List.range N)[q - 1]? = la[q - 1]? := by rw [hs, List.getElem?_append_left (by omega)]
      have h2 : (List.range N)[q - 1]? = some (q - 1) := by rw [List.getElem?_range]; omega
      rw [h2] at h1
      exact List.mem_of_getElem? h1.symm
    have := hall _ hx
    rw [show q - 1 + 1 = q by omega] at this
    simp [e] at this

theorem Perm.it_ne {f : Nat → Nat} {N : Nat} (p : Perm f N) {h : Nat} (hh : h < N) {i j : Nat} (hij : i < j) (hj : j < per f N h) : it f i h ≠ it f j h := fun e => by
  have e' : it f i (it f (j - i) h) = it f i h := by rw [← it_add, show i + (j - i) = j by omega]; exact e.symm
  exact (p.per_spec hh).2.2 (j - i) (by omega) (by omega) (p.it_inj (p.it_lt hh _) hh i e')

/-- g is on the cycle of h. -/
def Orb (f : Nat → Nat) (h g : Nat) : Prop := ∃ i, it f i h = g
theorem Perm.orb_lt {f : Nat → Nat} {N : Nat} (p : Perm f N) {h g : Nat} (hh : h < N) (o : Orb f h g) : ∃ i, i < per f N h ∧ it f i h = g := by
  obtain ⟨i, rfl⟩ := o
  induction i using Nat.strongRecOn with
  | ind i ih =>
    by_cases hi : i < per f N h
    · exact ⟨i, hi, rfl⟩
    · obtain ⟨j, hj, e⟩ := ih (i - per f N h) (by have := per_pos f N h; omega)
      refine ⟨j, hj, ?_⟩
      rw [e]
      have := it_add f (i - per f N h) (per f N h) h
      rw [(p.per_spec hh).1, show i - per f N h + per f N h = i by omega] at this
      exact this.symm
theorem Orb.refl (f : Nat → Nat) (h : Nat) : Orb f h h := ⟨0, rfl⟩
theorem Orb.trans {f : Nat → Nat} {a b c : Nat} (h : Orb f a b) (k : Orb f b c) : Orb f a c := by
  obtain ⟨i, rfl⟩ := h
  obtain ⟨j, rfl⟩ := k
  exact ⟨j + i, it_add f j i a⟩
theorem Perm.orb_symm {f : Nat → Nat} {N : Nat} (p : Perm f N) {h g : Nat} (hh : h < N) (o : Orb f h g) : Orb f g h := by
  obtain ⟨i, hi, rfl⟩ := p.orb_lt hh o
  refine ⟨per f N h - i, ?_⟩
  rw [← it_add, show per f N h - i + i = per f N h by omega]
  exact (p.per_spec hh).1

/-- The cycle that begins with h. -/
def cyc (f : Nat → Nat) (N h : Nat) : List Nat := (List.range (per f N h)).map (it f · h)
/-- Is h the least of its cycle? -/
def fst (f : Nat → Nat) (N h : Nat) : Bool := (cyc f N h).all (fun g => decide (h ≤ g))
theorem Perm.mem_cyc {f : Nat → Nat} {N : Nat} (p : Perm f N) {h : Nat} (hh : h < N) (g : Nat) : g ∈ cyc f N h ↔ Orb f h g := by
  unfold cyc
  simp only [List.mem_map, List.mem_range]
  constructor
  · rintro ⟨i, _, e⟩; exact ⟨i, e⟩
  · exact fun o => p.orb_lt hh o
theorem Perm.fst_iff {f : Nat → Nat} {N : Nat} (p : Perm f N) {h : Nat} (hh : h < N) : fst f N h = true ↔ ∀ h', h' < h → ¬ Orb f h' h := by
  unfold fst
  rw [List.all_eq_true]
  constructor
  · intro H h' hlt o
    have := H h' ((p.mem_cyc hh h').2 (p.orb_symm (by omega) o))
    simp at this; omega
  · intro H g hg
    have o := (p.mem_cyc hh g).1 hg
    obtain ⟨i, _, e⟩ := p.orb_lt hh o
    have hgN : g < N := by rw [← e]; exact p.it_lt hh i
    simp only [decide_eq_true_eq]
    by_cases hlt : g < h
    · exact absurd (p.orb_symm hh o) (H g hlt)
    · omega

/-- Faces and crossings with the label l; the count for each component. -/
def cntF (F f : Nat → Nat) (N k l : Nat) : Nat := (List.range k).countP (fun h => fst f N h && F (h / 4) == l)
def cntV (F : Nat → Nat) (k l : Nat) : Nat := (List.range k).countP (fun c => F c == l)
theorem cntF_succ (F f : Nat → Nat) (N k l : Nat) : cntF F f N (k + 1) l = cntF F f N k l + if fst f N k && F (k / 4) == l then 1 else 0 := by
  unfold cntF; rw [List.range_succ, List.countP_append]; simp [List.countP_cons]
theorem cntV_succ (F : Nat → Nat) (k l : Nat) : cntV F (k + 1) l = cntV F k l + if F k == l then 1 else 0 := by
  unfold cntV; rw [List.range_succ, List.countP_append]; simp [List.countP_cons]
def sphB (F f : Nat → Nat) (N n : Nat) : Bool := (List.range n).all fun c => decide (cntF F f N N (F c) = cntV F n (F c) + 2)
theorem cntF_congr {F G f : Nat → Nat} {N n k : Nat} (h : ∀ c, c < n → F c = G c) (hk : k ≤ 4 * n) (l : Nat) : cntF F f N k l = cntF G f N k l := by
  induction k with
  | zero => rfl
  | succ k ih => rw [cntF_succ, cntF_succ, ih (by omega), h (k / 4) (by omega)]
theorem cntV_congr {F G : Nat → Nat} {n k : Nat} (h : ∀ c, c < n → F c = G c) (hk : k ≤ n) (l : Nat) : cntV F k l = cntV G k l := by
  induction k with
  | zero => rfl
  | succ k ih => rw [cntV_succ, cntV_succ, ih (by omega), h k (by omega)]
theorem sphB_iff (F f : Nat → Nat) (N n : Nat) : sphB F f N n = true ↔ ∀ c, c < n → cntF F f N N (F c) = cntV F n (F c) + 2 := by
  unfold sphB; simp [List.all_eq_true]
theorem sphB_congr {F G f : Nat → Nat} {n : Nat} (h : ∀ c, c < n → F c = G c) : sphB F f (4 * n) n = sphB G f (4 * n) n := by
  rw [Bool.eq_iff_iff, sphB_iff, sphB_iff]
  constructor <;> intro H c hc <;> have := H c hc
  · rw [h c hc, cntF_congr h (Nat.le_refl _), cntV_congr h (Nat.le_refl _)] at this; exact this
  · rw [h c hc, cntF_congr h (Nat.le_refl _), cntV_congr h (Nat.le_refl _)]; exact this

/-- The turn of a half-edge by s slots. -/
def trn (h s : Nat) : Nat := h - h % 4 + (h % 4 + s) % 4
theorem trn_lt {h s n : Nat} (hh : h < 4 * n) : trn h s < 4 * n := by unfold trn; omega
theorem trn_div (h s : Nat) : trn h s / 4 = h / 4 := by unfold trn; omega
theorem trn_inj {s a b : Nat} (e : trn a s = trn b s) : a = b := by unfold trn at e; omega

/-- m is an involution of the half-edges below N. -/
structure Invol (m : Nat → Nat) (N : Nat) : Prop where
  lt : ∀ h, h < N → m h < N
  inv : ∀ h, h < N → m (m h) = h
theorem Invol.perm {m : Nat → Nat} {n : Nat} (i : Invol m (4 * n)) (s : Nat) : Perm (fun h => trn (m h) s) (4 * n) :=
  ⟨fun h hh => trn_lt (i.lt h hh), fun h g hh hg e => by
    have := trn_inj e
    rw [← i.inv h hh, ← i.inv g hg, this]⟩

end Go.Proofs.Ytkfjledhnakfoaa

/- Words for memory: a slice of ints that the call made. -/
namespace Go.Proofs.Ytkfjledhnakfoaa
open Go.RowKit

theorem Try.infoInt : (Try.prog.info? 3).map (fun i => (i.zero, i.size, i.bytes)) = some (some (.int .i64 0), 1, 8) := by kernel_rfl

abbrev ints (xs : List Int) : List Value := xs.map (Value.int .i64)
/-- v is a slice of the call's own (in a block from B on) that reads as xs. -/
def OI (w : World) (B : Nat) (v : Value) (xs : List Int) : Prop := w.ownsRow B 3 1 v xs.length (ints xs)
theorem OI.grown {w w' : World} {B : Nat} {v : Value} {xs : List Int} (h : OI w B v xs) {row : Option Nat} (hg : w.grownBy w' row) (hne : v.ownBlock = none ∨ v.ownBlock ≠ row) : OI w' B v xs := World.ownsRow.kept h hg hne
theorem grown_of_below {w w' : World} (h : Below w.heap.size w w') : w.grownBy w' none := ⟨h.os, h.tape, h.output, h.size, fun k hk _ => h.block k hk⟩
theorem OI.keep {w w' : World} {B : Nat} {v : Value} {xs : List Int} (h : OI w B v xs) (hb : Below w.heap.size w w') : OI w' B v xs :=
  h.grown (grown_of_below hb) (by cases e : v.ownBlock <;> simp)
theorem OI.alloc {w : World} {B : Nat} {v : Value} {xs : List Int} (h : OI w B v xs) (o : Obj) : OI (w.alloc o) B v xs := h.keep (below_alloc _ _)
theorem OI.mono {w : World} {B B' : Nat} {v : Value} {xs : List Int} (h : OI w B v xs) (hB : B' ≤ B) : OI w B' v xs := by
  refine ⟨h.1, h.2.imp id ?_⟩
  rintro ⟨g, cap, cur, h1, h2, h3⟩
  exact ⟨g, cap, cur, h1, by omega, h3⟩
theorem OI.far {w : World} {B : Nat} {v : Value} {xs : List Int} (h : OI w B v xs) {p : Addr} (hp : v.ownBlock ≠ some p.block) (u : Value) : OI (w.setCell p u) B v xs := by
  refine ⟨h.1, h.2.imp id ?_⟩
  rintro ⟨g, cap, cur, rfl, h2, h3, h4⟩
  exact ⟨g, cap, cur, rfl, h2, (Below.heap_setCell w p u g (by rintro rfl; exact hp rfl)).trans h3, h4⟩
theorem OI.form {w : World} {B : Nat} {v : Value} {xs : List Int} (h : OI w B v xs) : (v = .slice none 0 0 ∧ xs = []) ∨ ∃ g cap, v = .slice (some ⟨g, 0, none⟩) xs.length cap ∧ B ≤ g ∧ g < w.heap.size := by
  rcases h.2 with ⟨h1, h2⟩ | ⟨g, cap, cur, h1, h2, h3, _⟩
  · exact .inl ⟨h1, List.length_eq_zero_iff.1 h2⟩
  · refine .inr ⟨g, cap, h1, h2, ?_⟩
    rcases Nat.lt_or_ge g w.heap.size with hlt | hge
    · exact hlt
    · rw [Array.getElem?_eq_none hge] at h3; cases h3
theorem OI.form_pos {w : World} {B n : Nat} {v : Value} {xs : List Int} (h : OI w B v xs) (hl : xs.length = n) (hn : 0 < n) : ∃ g cap, v = .slice (some ⟨g, 0, none⟩) n cap := by
  rcases h.form with ⟨_, rfl⟩ | ⟨g, cap, h1, _⟩
  · simp at hl; omega
  · exact ⟨g, cap, by rw [h1, hl]⟩
theorem OI.nil (w : World) (B : Nat) : OI w B (.slice none 0 0) [] := World.ownsRow_nil w B _ _
theorem OI.one (w : World) (B : Nat) (x : Int) (hB : B ≤ w.heap.size) : OI (w.alloc (.cells #[.int .i64 x] 3)) B (.slice (some ⟨w.heap.size, 0, none⟩) 1 1) [x] :=
  World.ownsRow_lit w #[.int .i64 x] 1 hB (by simp [maxLen]) rfl
theorem OI.cell {w : World} {B g n cap : Nat} {xs : List Int} (h : OI w B (.slice (some ⟨g, 0, none⟩) n cap) xs) (j : Nat) (hj : j < xs.length) : w.cell? ⟨g, j, none⟩ = some (.int .i64 (xs.getD j 0)) := by
  have hn : n = xs.length := by
    rcases h.2 with ⟨h1, _⟩ | ⟨g', cap', cur, h1, _⟩
    · cases h1
    · injection h1
  subst hn
  have := World.ownsRow.cellAt h j (by omega)
  rw [this]
  simp [ints, List.getD, hj]
theorem OI.ri {w : World} {B : Nat} {A : Option Addr} {n c : Nat} {xs : List Int} (h : OI w B (.slice A n c) xs) : RI w A n xs := by
  rcases h.form with ⟨h1, rfl⟩ | ⟨g, cap, h1, _, hlt⟩
  · injection h1 with h1 h2 h3; subst h1; subst h2; exact RI.nil _ _
  · injection h1 with h1 h2 h3; subst h1; subst h2; subst h3
    exact ⟨rfl, fun _ => ⟨g, 0, rfl, hlt, fun j hj => by rw [Nat.zero_add]; exact h.cell j hj⟩⟩

/-- append of one int to a slice of the call's own. -/
theorem wpList_append_int {ops : Array Oper} {rest : List Oper} {o : Oper} {a : Act} {w : World} {Q : Exit → Act → World → Prop} (hgd : o.guard = none) (s x : Operand)
    (ho : o.op = .call { callee := .builtin .append, args := #[s, x], argTypes := #[22, 22] }) (B : Nat) (v : Value) (xs : List Int) (hs : a.eval s = v) (hown : OI w B v xs)
    (g : Nat) (y : Int) (hx : a.eval x = .slice (some ⟨g, 0, none⟩) 1 1) (hc : w.cell? ⟨g, 0, none⟩ = some (.int .i64 y)) (hlen : xs.length ≤ 1000000000) (hbase : B ≤ w.heap.size)
    (h : ∀ v' w', OI w' B v' (xs ++ [y]) → w.grownBy w' v.ownBlock → wpList Try.prog ops Q rest (a.put o.dst v') w') : wpList Try.prog ops Q (o :: rest) a w := by
  obtain ⟨i0, hi, hz0, hz1, hz2⟩ := info_parts Try.infoInt
  refine wpList_append_own w hgd s x 22 ho B 3 i0 (.int .i64 0) 1 8 Try.underlying22 hi hz0 hz1 hz2 rfl (by decide) v xs.length (ints xs) hs hown ⟨g, 0, none⟩ 1 1 [.int .i64 y] hx rfl ?_ ?_ (by unfold maxLen; omega) (by omega) hbase ?_
  · intro j u hj
    match j, hj with
    | 0, hj => simp at hj; subst hj; simpa [Addr.add] using hc
  · intro u hu; simp at hu; subst hu; rfl
  · intro v' w' h1 h2 _
    refine h v' w' ?_ h2
    unfold OI
    simpa [ints] using h1

end Go.Proofs.Ytkfjledhnakfoaa

/- Walk: leastConnected. -/
namespace Go.Proofs.Ytkfjledhnakfoaa
open Go.RowKit

set_option maxHeartbeats 800000 in
theorem find_any (g c : Nat) (L : Nat → Nat) (w : World) (hA : Arr w g 74 64 (iv L)) (hL : ∀ i, L i ≤ i) (hc : c < 64) :
    Calls Try.prog 112 #[.int .i64 (c : Nat), .pointer (some ⟨g, 0, none⟩)] w fun e w' => e = .returned (.int .i64 (root L c : Nat)) ∧ w = w' := by
  go_enter Try.func112, Try.ntmps112
  go_wp2
  go_loop [0] (fun i => ∃ k : Nat, k < 64 ∧ i = .int .i64 k ∧ root L k = root L c) (fun i => (intOf i).toNat)
  case atStart => exact ⟨c, hc, rfl, rfl⟩
  case round =>
    obtain ⟨k, hk, rfl, hr⟩ := hrel
    have HR := Lib.hid hr
    clear hr
    have hcell : w.cell? ⟨g, k, none⟩ = some (.int .i64 (L k : Nat)) := hA.cell k hk
    have hk0 : (0 : Int) ≤ (k : Int) := Int.natCast_nonneg _
    have hk1 : (k : Int) < 64 := by omega
    by_cases hlt : L k < k
    · have hne : ((L k : Int) != (k : Int)) = true := by simp; omega
      have HS := Lib.hid (root_step L k hlt)
      clear hL
      generalize hx : L k = x at hcell hlt hne HS
      clear hx
      go_wp2
      go_round
      case rel => exact ⟨x, by omega, rfl, HS.out.symm.trans HR.out⟩
      case measure => simp [intOf]; omega
    · have hx : L k = k := by have := hL k; omega
      have HF := Lib.hid (root_fix L k hlt)
      rw [hx] at hcell
      clear hL hlt hx
      go_wp2
      go_ret
      exact ⟨ret_int (by rw [← HR.out, HF.out]), rfl⟩

theorem find_int (x : Int) (g c : Nat) (hx : x = (c : Nat)) (L : Nat → Nat) (w : World) (hA : Arr w g 74 64 (iv L)) (hL : ∀ i, L i ≤ i) (hc : c < 64) (r : Nat) (hr : root L c = r) :
    Calls Try.prog 112 #[.int .i64 x, .pointer (some ⟨g, 0, none⟩)] w fun e w' => e = .returned (.int .i64 (r : Nat)) ∧ w' = w := by
  subst hx; subst hr
  exact (find_any g c L w hA hL hc).mono fun _ _ ⟨a, b⟩ => ⟨a, b.symm⟩

theorem find_intw (x : Int) (g c : Nat) (hx : x = (c : Nat)) (L : Nat → Nat) (w : World) (hA : Arr w g 74 64 (iv L)) (hL : ∀ i, L i ≤ i) (hc : c < 64) (r : Nat) (hr : root L c = r) :
    Calls Try.prog 112 #[.int .i64 x, .pointer (some ⟨g, 0, none⟩)] w fun e w' => e = .returned (.int .i64 (r : Nat)) ∧ w = w' := by
  subst hx; subst hr
  exact find_any g c L w hA hL hc

/-- The mates of the half-edges below nm are m 0, m 1, .. -/
def Mates (mate : List Int) (nm : Nat) (m : Nat → Nat) : Prop := ∀ h, h < nm → mate.getD h 0 = (m h : Int) ∧ m h < nm

theorem Try.size56 : (Try.prog.info? 74).map (·.size) = some 64 := by kernel_rfl

def UfPost (_mate : List Int) (ns nm : Nat) (m : Nat → Nat) (w : World) (e : Ending) (w' : World) : Prop :=
  e = .returned (.agg (cellsN 64 (iv (cutN ns (ufLab m nm))))) ∧ Below w.heap.size w w'

set_option maxHeartbeats 3200000 in
set_option maxRecDepth 100000 in
theorem uf_any (A B : Option Addr) (ns cs nm cm : Nat) (lp : Int) (_signs mate : List Int) (m : Nat → Nat) (w : World) (hm : RI w B nm mate) (hns : ns ≤ 64) (hnm : nm = 4 * ns) (hmm : Mates mate nm m) :
    Calls Try.prog 76 #[dval A ns cs B nm cm lp] w (UfPost mate ns nm m w) := by
  have HNM := Lib.hid hnm
  clear hnm
  go_enter Try.func76, Try.ntmps76
  go_wp2
  rw [zeros64]
  generalize hwA : ((w.alloc (dbox A ns cs B nm cm lp)).alloc (.cells (cellsN 64 (iv fun _ => 0)) 74)).alloc (.cells (cellsN 64 (iv fun _ => 0)) 74) = wA
  have hd : DB wA w.heap.size A ns cs B nm cm lp := by
    rw [← hwA]; exact ((DB.new w A ns cs B nm cm lp).keep (below_alloc _ _)).keep (below_alloc _ _)
  have hr : Arr wA (w.heap.size + 1) 74 64 (iv fun _ => 0) := by
    rw [← hwA]
    refine Arr.alloc ?_ _
    have := heap_alloc_new (w.alloc (dbox A ns cs B nm cm lp)) (.cells (cellsN 64 (iv fun _ => 0)) 74)
    simpa [Arr] using this
  have hl : Arr wA (w.heap.size + 2) 74 64 (iv fun _ => 0) := by
    rw [← hwA]
    have := heap_alloc_new ((w.alloc (dbox A ns cs B nm cm lp)).alloc (.cells (cellsN 64 (iv fun _ => 0)) 74)) (.cells (cellsN 64 (iv fun _ => 0)) 74)
    simpa [Arr] using this
  have hb0 : Below w.heap.size w wA := by
    rw [← hwA]; exact below_step (below_step (below_alloc _ _) (below_alloc _ _)) (below_alloc _ _)
  clear hwA
  obtain ⟨g1, hg1⟩ : ∃ g1, w.heap.size + 1 = g1 := ⟨_, rfl⟩
  obtain ⟨g2, hg2⟩ : ∃ g2, w.heap.size + 2 = g2 := ⟨_, rfl⟩
  have e2 : g1 + 1 = g2 := by omega
  rw [hg2] at hl
  rw [hg1] at hr ⊢
  rw [e2]
  have h01 : w.heap.size < g1 := by omega
  have h12 : g1 < g2 := by omega
  clear hg1 hg2 e2
  go_loopw [4, 13] (fun _ i wr => ∃ k : Nat, k ≤ ns ∧ i = .int .i64 k ∧ Below g2 wA wr ∧ Arr wr g2 74 64 (iv (cutN k fun i => i))) (fun _ i _ => ns - (intOf i).toNat)
  case atStart => exact ⟨0, by omega, rfl, Below.refl _ _, hl⟩
  case round =>
    obtain ⟨k, hk, rfl, hbr, har⟩ := hrel
    obtain ⟨d0, d1, d2, dlt⟩ := hd.below hbr (by omega)
    by_cases hlt : k < ns
    · have hcell := har.cell k (by omega)
      have hfz := har.frozen k
      have hk0 : (0 : Int) ≤ (k : Int) := Int.natCast_nonneg _
      have hk1 : (k : Int) < 64 := by omega
      clear hmm
      go_wp2
      go_roundw
      case rel => exact ⟨k + 1, by omega, by go_num, below_set hbr (Nat.le_refl _) _, by have := har.seti k k; rwa [cutN_grow (fun i => i) k] at this⟩
      case measure => simp [intOf]; omega
    · obtain rfl : k = ns := by omega
      obtain ⟨wB, hwB⟩ : ∃ wB : World, wB = wr := ⟨_, rfl⟩
      subst hwB
      have harB : Arr wB g2 74 64 (iv (cutN k (ufAt m 0))) := har
      have hmf : ∀ (fn : Fn) (first cap : Array Value) (w : World), (Instr.makeFunc fn first cap).run Try.prog w = .ok (.func fn first cap) w := fun _ _ _ _ => rfl
      clear hlt hk
      go_wp2
      go_loopw [6, 7, 8, 24] (fun _ _ _ i wr => ∃ j : Nat, j ≤ nm ∧ i = .int .i64 j ∧ Below g2 wB wr ∧ Arr wr g2 74 64 (iv (cutN k (ufAt m j)))) (fun _ _ _ i _ => nm - (intOf i).toNat)
      case atStart => exact ⟨0, by omega, rfl, Below.refl _ _, harB⟩
      case round =>
        obtain ⟨j, hj, rfl, hbj, haj⟩ := hrel
        have hbW := hbr.trans hbj
        obtain ⟨d0, d1, d2, dlt⟩ := hd.below hbW (by omega)
        by_cases hlt : j < nm
        · obtain ⟨b, off, rfl, hbb, hc⟩ := (hm.keep (hb0.trans (hbW.mono (by omega)))).2 (by omega)
          have hcj := hc j hlt
          obtain ⟨hmj, hml⟩ := hmm j hlt
          rw [hmj] at hcj
          have hj4 : j / 4 < k := by have := HNM.out; omega
          have hm4 : m j / 4 < k := by have := HNM.out; omega
          have hLe := cutN_le k (ufAt m j) (ufAt_le m j)
          have HA := Lib.hid haj
          have HL := Lib.hid hLe
          have hstep : upd (cutN k (ufAt m j)) (max (root (ufAt m j) (j / 4)) (root (ufAt m j) (m j / 4))) (min (root (ufAt m j) (j / 4)) (root (ufAt m j) (m j / 4))) = cutN k (ufAt m (j + 1)) :=
            cutN_upd _ _ _ _ (by have := root_le (ufAt m j) (j / 4); have := root_le (ufAt m j) (m j / 4); omega)
          have HS := Lib.hid hstep
          have HX := Lib.hid (root_cutN k (ufAt m j) (j / 4) hj4)
          have HY := Lib.hid (root_cutN k (ufAt m j) (m j / 4) hm4)
          have hx64 : root (ufAt m j) (j / 4) < 64 := by have := root_le (ufAt m j) (j / 4); omega
          have hy64 : root (ufAt m j) (m j / 4) < 64 := by have := root_le (ufAt m j) (m j / 4); omega
          generalize hmx : m j = mj at *
          generalize root (ufAt m j) (j / 4) = x at *
          generalize root (ufAt m j) (mj / 4) = y at *
          clear haj hLe hstep hc hmj hmm
          have hj0 : (0 : Int) ≤ (j : Int) := Int.natCast_nonneg _
          have hj1 : (j : Int) < (nm : Int) := by omega
          have hmj0 : (0 : Int) ≤ (mj : Int) := Int.natCast_nonneg _
          have hx0 : (0 : Int) ≤ (x : Int) := Int.natCast_nonneg _
          have hy0 : (0 : Int) ≤ (y : Int) := Int.natCast_nonneg _
          have hw1 : IntKind.i64.wrap ((j : Int) / 4) = (j : Int) / 4 := IntWalk.i64_in _ (by omega)
          have hw2 : IntKind.i64.wrap ((mj : Int) / 4) = (mj : Int) / 4 := IntWalk.i64_in _ (by omega)
          have C1 := Lib.hid (find_intw ((j : Int) / 4) g2 (j / 4) (by omega) (cutN k (ufAt m j)) wr.drew HA.out HL.out (by omega) x HX.out)
          have C2 := Lib.hid (find_intw ((mj : Int) / 4) g2 (mj / 4) (by omega) (cutN k (ufAt m j)) wr.drew HA.out HL.out (by omega) y HY.out)
          have hcases : ∃ hi lo : Nat, hi < 64 ∧ max x y = hi ∧ min x y = lo ∧ ((x < y ∧ hi = y ∧ lo = x) ∨ (x = y ∧ hi = y ∧ lo = x) ∨ (y < x ∧ hi = x ∧ lo = y)) := by
            rcases Nat.lt_trichotomy x y with h | h | h
            · exact ⟨y, x, hy64, by omega, by omega, .inl ⟨h, rfl, rfl⟩⟩
            · exact ⟨y, x, hy64, by omega, by omega, .inr (.inl ⟨h, rfl, rfl⟩)⟩
            · exact ⟨x, y, hx64, by omega, by omega, .inr (.inr ⟨h, rfl, rfl⟩)⟩
          obtain ⟨hi, lo, hhi, ehi, elo, hcs⟩ := hcases
          rw [ehi, elo] at HS
          have hcx := (HA.out).cell hi hhi
          have hfx := (HA.out).frozen hi
          have HZ := Lib.hid (show Arr (wr.setCell ⟨g2, hi, none⟩ (.int .i64 (lo : Nat))) g2 74 64 (iv (cutN k (ufAt m (j + 1)))) from by have := HA.out.seti hi lo; rwa [HS.out] at this)
          clear ehi elo HS
          rcases hcs with ⟨hxy, rfl, rfl⟩ | ⟨rfl, rfl, rfl⟩ | ⟨hxy, rfl, rfl⟩
          all_goals
            go_wp2
            go_region_held3 (fun w' => w'.cell? ⟨w.heap.size, 1, none⟩ = some (.slice (some ⟨b, off, none⟩) nm cm) ∧ w'.cell? ⟨b, off + j, none⟩ = some (.int .i64 (mj : Int))) (go_keep)
              (first
                | (go_at_call 112; ((with_reducible refine C1.out.mono ?_); rintro e w' ⟨rfl, rfl⟩))
                | (go_at_call 112; ((with_reducible refine C2.out.mono ?_); rintro e w' ⟨rfl, rfl⟩)))
            go_wp2
            go_roundw
            case rel => exact ⟨j + 1, by omega, by go_num, below_set hbj.drew (Nat.le_refl _) _, HZ.out⟩
            case measure => simp [intOf]; omega
        · obtain rfl : j = nm := by omega
          have hrr : Arr wr g1 74 64 (iv fun _ => 0) := hr.below hbW h12
          obtain ⟨wC, hwC⟩ : ∃ wC : World, wC = wr := ⟨_, rfl⟩
          subst hwC
          clear hlt hj hbj
          have hajC : Arr wC g2 74 64 (iv (cutN k (compAt (ufAt m j) 0))) := by rw [comp_zero]; exact haj
          clear haj
          go_wp2
          go_loopw [9, 50] (fun _ i wr => ∃ q : Nat, q ≤ k ∧ i = .int .i64 q ∧ Below g2 wC wr ∧ Arr wr g2 74 64 (iv (cutN k (compAt (ufAt m j) q)))) (fun _ i _ => k - (intOf i).toNat)
          case atStart => exact ⟨0, by omega, rfl, Below.refl _ _, hajC⟩
          case round =>
            obtain ⟨q, hq, rfl, hbq, haq⟩ := hrel
            have hbW' := hbW.trans hbq
            obtain ⟨d0, d1, d2, dlt⟩ := hd.below hbW' (by omega)
            by_cases hlt : q < k
            · have HC := Lib.hid (find_intw (q : Int) g2 q rfl (cutN k (compAt (ufAt m j) q)) wr haq (cutN_le k _ (comp_le _ (ufAt_le m j) q)) (by omega) (root (compAt (ufAt m j) q) q) (root_cutN k _ q hlt))
              have hcx := haq.cell q (by omega)
              have hfx := haq.frozen q
              have hstep : Arr (wr.setCell ⟨g2, q, none⟩ (.int .i64 (root (compAt (ufAt m j) q) q : Nat))) g2 74 64 (iv (cutN k (compAt (ufAt m j) (q + 1)))) := by
                have := haq.seti q (root (compAt (ufAt m j) q) q)
                rwa [cutN_upd _ _ _ _ hlt, comp_succ] at this
              have HZ := Lib.hid hstep
              clear hstep haq
              have hq0 : (0 : Int) ≤ (q : Int) := Int.natCast_nonneg _
              have hq1 : (q : Int) < 64 := by omega
              go_wp2_with (go_at_call 112; ((with_reducible refine HC.out.mono ?_); rintro e w' ⟨rfl, rfl⟩))
              go_outline
              go_roundw
              case rel => exact ⟨q + 1, by omega, by go_num, below_set hbq (Nat.le_refl _) _, HZ.out⟩
              case measure => simp [intOf]; omega
            · obtain rfl : q = k := by omega
              have hrq : Arr wr g1 74 64 (iv fun _ => 0) := hrr.below hbq h12
              have hfin : Arr wr g2 74 64 (iv (cutN q (ufLab m j))) := haq.congr fun i hi => by
                simp only [iv, cutN, compAt, ufLab]
                by_cases h : i < q
                · simp [h]
                · simp [h]
              have HF := Lib.hid hfin
              have HR := Lib.hid hrq
              have HB := Lib.hid (hb0.trans (hbW'.mono (by omega)))
              clear haq hfin hrq hlt hq hrr hl hr har harB hajC hmm
              go_wp2_with (first
                | (refine wpList_load_row rfl 74 (.tmp 3) rfl g2 rfl 74 (cellsN 64 (iv (cutN q (ufLab m j)))) (0, 0) _ HF.out Try.underlying74 rfl (by rw [cellsN_size]; exact Try.size56) ?_)
                | (refine wpList_store_row rfl 74 (.tmp 2) (.tmp 59) rfl g1 74 (cellsN 64 (iv fun _ => 0)) (cellsN 64 (iv (cutN q (ufLab m j)))) rfl rfl HR.out (by rw [cellsN_size]; exact Try.size56) (by rw [cellsN_size, cellsN_size]) (cellsN_one _ _ fun _ => rfl) ?_))
              refine bodyPost_ret (v := .agg (cellsN 64 (iv (cutN q (ufLab m j))))) (results_cell_row (fn := Try.f76) rfl _ _ g1 74 (cellsN 64 (iv (cutN q (ufLab m j)))) (0, 0) _ rfl (setRow_heap _ _ _ _ _ _ HR.out) Try.underlying74 rfl (by rw [cellsN_size]; exact Try.size56)) rfl ⟨rfl, below_setRow' HB.out (by omega) _⟩

end Go.Proofs.Ytkfjledhnakfoaa

/- The zero value of the array of 256 bools. (A seat of more than 80 functions.) -/
namespace Go.Proofs.Ytkfjledhnakfoaa
open Go.RowKit

def fal256 : Array Value := cellsN 256 (bv fun _ => false)
theorem fal256_def : fal256 = cellsN 256 (bv fun _ => false) := rfl
theorem fal256_run : ∀ w : World, (zeroValue 91).run Try.prog w = .ok (.agg fal256) w := fun _ => by kernel_rfl
theorem fal256_size : fal256.size = 256 := by rw [fal256_def, cellsN_size]
theorem fal256_ne : ¬ fal256 = #[] := fun e => by have := fal256_size; rw [e] at this; cases this
theorem fal256_eq : Try.zeroCells91 = fal256 := by kernel_rfl

end Go.Proofs.Ytkfjledhnakfoaa
