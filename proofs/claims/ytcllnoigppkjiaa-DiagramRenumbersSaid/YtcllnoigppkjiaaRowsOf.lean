/- Words for memory: a slice of slices of the call's own; make. -/
import Derived.Test.YtcllnoigppkjiaaCycle
namespace Go.Proofs.Ytcllnoigppkjiaa
open Go.RowKit

theorem Try.infoSlice : (Try.prog.info? 22).map (fun i => (i.zero, i.size, i.bytes)) = some (some (.slice none 0 0), 1, 24) := by kernel_rfl
theorem Try.infoBool : (Try.prog.info? 4).map (fun i => (i.zero, i.size, i.bytes)) = some (some (.bool false), 1, 1) := by kernel_rfl

theorem made_one (z : Value) (n : Nat) : madeCells #[z] n = cellsN n (fun _ => z) := by
  apply Array.ext'
  rw [toList_madeCells_one]
  simp [cellsN]
  apply List.ext_getElem <;> simp
theorem make_one {P : Program} {t e : TypeId} {z : Value} {bytes : Nat} (ht : P.underlying t = some (.slice e)) (hi : (P.info? e).map (fun i => (i.zero, i.size, i.bytes)) = some (some z, 1, bytes)) (hz : z.cells = #[z])
    (n : Nat) (hb : bytes * n ≤ 281474976710656) (h63 : n ≤ 9223372036854775807) (w : World) :
    (Instr.makeSlice t (.int .i64 (n : Int)) (.int .i64 (n : Int))).run P w = .ok (.slice (some ⟨w.heap.size, 0, none⟩) n n) (w.alloc (.cells (cellsN n fun _ => z) e)) := by
  obtain ⟨i0, hi0, hz0, hz1, hz2⟩ := info_parts hi
  have hb' : (i0.bytes : Int) * (n : Int) ≤ 281474976710656 := by
    have h1 : ((bytes * n : Nat) : Int) ≤ 281474976710656 := by omega
    rw [hz2]; rwa [Int.natCast_mul] at h1
  have := run_make (P := P) w t e i0 z ht hi0 hz0 .i64 .i64 n n (by omega) (Int.le_refl _) hb' (by omega)
  simp only [Int.toNat_natCast, hz1, hz, Nat.mul_one] at this
  rw [this, made_one]

/-- A row whose elements are one cell each. -/
def ownRow (w : World) (B : Nat) (e : TypeId) (v : Value) (vs : List Value) : Prop := w.ownsRow B e 1 v vs.length vs
theorem OI.type {w : World} {B : Nat} {v : Value} {xs : List Int} (h : OI w B v xs) {g : Nat} (hg : v.ownBlock = some g) : ∃ cur, w.heap[g]? = some (.cells cur 3 (0, 0)) := by
  rcases h.2 with ⟨rfl, _⟩ | ⟨g', cap, cur, rfl, _, h3, _⟩
  · cases hg
  · simp [Value.ownBlock] at hg; subst hg; exact ⟨cur, h3⟩
theorem ownRow.type {w : World} {B : Nat} {e : TypeId} {v : Value} {vs : List Value} (h : ownRow w B e v vs) {g : Nat} (hg : v.ownBlock = some g) : ∃ cur, w.heap[g]? = some (.cells cur e (0, 0)) := by
  rcases h.2 with ⟨rfl, _⟩ | ⟨g', cap, cur, rfl, _, h3, _⟩
  · cases hg
  · simp [Value.ownBlock] at hg; subst hg; exact ⟨cur, h3⟩
theorem ownRow.keep {w w' : World} {B : Nat} {e : TypeId} {v : Value} {vs : List Value} (h : ownRow w B e v vs) (hb : Below w.heap.size w w') : ownRow w' B e v vs :=
  World.ownsRow.kept h (grown_of_below hb) (by cases e : v.ownBlock <;> simp)
theorem OI.ne_row {w : World} {B B' : Nat} {e : TypeId} {v v' : Value} {xs : List Int} {vs : List Value} (h : OI w B v xs) (k : ownRow w B' e v' vs) (he : e ≠ 3) : v.ownBlock = none ∨ v.ownBlock ≠ v'.ownBlock := by
  cases hg : v.ownBlock with
  | none => exact .inl rfl
  | some g =>
    refine .inr fun e' => ?_
    obtain ⟨c1, h1⟩ := h.type hg
    obtain ⟨c2, h2⟩ := k.type e'.symm
    rw [h1] at h2; injection h2 with h2; injection h2 with _ h3 _; exact he h3.symm
theorem OI.ne_arr {w : World} {B g n : Nat} {e : TypeId} {v : Value} {xs : List Int} {V : Nat → Value} (h : OI w B v xs) (k : Arr w g e n V) (he : e ≠ 3) : v.ownBlock ≠ some g := fun hg => by
  obtain ⟨c1, h1⟩ := h.type hg
  unfold Arr at k
  rw [h1] at k; injection k with k; injection k with _ h3 _; exact he h3.symm
theorem ownRow.ne_arr {w : World} {B g n : Nat} {e e' : TypeId} {v : Value} {vs : List Value} {V : Nat → Value} (h : ownRow w B e' v vs) (k : Arr w g e n V) (he : e ≠ e') : v.ownBlock ≠ some g := fun hg => by
  obtain ⟨c1, h1⟩ := h.type hg
  unfold Arr at k
  rw [h1] at k; injection k with k; injection k with _ h3 _; exact he h3.symm
theorem ownRow.far {w : World} {B : Nat} {e : TypeId} {v : Value} {vs : List Value} (h : ownRow w B e v vs) {p : Addr} (hp : v.ownBlock ≠ some p.block) (u : Value) : ownRow (w.setCell p u) B e v vs := by
  refine ⟨h.1, h.2.imp id ?_⟩
  rintro ⟨g, cap, cur, rfl, h2, h3, h4⟩
  exact ⟨g, cap, cur, rfl, h2, (Below.heap_setCell w p u g (by rintro rfl; exact hp rfl)).trans h3, h4⟩

/-- v is a slice of slices of ints of the call's own that reads as xss. -/
def OO (w : World) (B : Nat) (v : Value) (xss : List (List Int)) : Prop :=
  ∃ vs : List Value, ownRow w B 22 v vs ∧ vs.length = xss.length ∧ ∀ i, i < xss.length → OI w B (vs.getD i undef) (xss.getD i [])
theorem OO.nil (w : World) (B : Nat) : OO w B (.slice none 0 0) [] := ⟨[], World.ownsRow_nil w B _ _, rfl, fun i hi => absurd hi (by simp)⟩
theorem OO.keep {w w' : World} {B : Nat} {v : Value} {xss : List (List Int)} (h : OO w B v xss) (hb : Below w.heap.size w w') : OO w' B v xss := by
  obtain ⟨vs, h1, h2, h3⟩ := h
  exact ⟨vs, h1.keep hb, h2, fun i hi => (h3 i hi).keep hb⟩
theorem OO.far {w : World} {B g n : Nat} {e : TypeId} {v : Value} {xss : List (List Int)} {V : Nat → Value} (h : OO w B v xss) (k : Arr w g e n V) (he : e ≠ 3) (he' : e ≠ 22) (j : Nat) (u : Value) : OO (w.setCell ⟨g, j, none⟩ u) B v xss := by
  obtain ⟨vs, h1, h2, h3⟩ := h
  exact ⟨vs, h1.far (h1.ne_arr k he') u, h2, fun i hi => (h3 i hi).far ((h3 i hi).ne_arr k he) u⟩
theorem OO.form {w : World} {B : Nat} {v : Value} {xss : List (List Int)} (h : OO w B v xss) : ∃ A c, v = .slice A xss.length c := by
  obtain ⟨vs, h1, h2, _⟩ := h
  rcases h1.2 with ⟨h3, h4⟩ | ⟨g, cap, cur, h3, _⟩
  · exact ⟨none, 0, by rw [h3, ← h2, h4]⟩
  · exact ⟨_, cap, by rw [h3, h2]⟩
theorem ownRow.mono {w : World} {B B' : Nat} {e : TypeId} {v : Value} {vs : List Value} (h : ownRow w B e v vs) (hB : B' ≤ B) : ownRow w B' e v vs := by
  refine ⟨h.1, h.2.imp id ?_⟩
  rintro ⟨g, cap, cur, h1, h2, h3⟩
  exact ⟨g, cap, cur, h1, by omega, h3⟩
theorem OO.mono {w : World} {B B' : Nat} {v : Value} {xss : List (List Int)} (h : OO w B v xss) (hB : B' ≤ B) : OO w B' v xss := by
  obtain ⟨vs, h1, h2, h3⟩ := h
  exact ⟨vs, h1.mono hB, h2, fun i hi => (h3 i hi).mono hB⟩
theorem OO.ne_arr {w : World} {B g n : Nat} {e : TypeId} {v : Value} {xss : List (List Int)} {V : Nat → Value} (h : OO w B v xss) (k : Arr w g e n V) (he' : e ≠ 22) : v.ownBlock ≠ some g := by
  obtain ⟨vs, h1, _⟩ := h; exact h1.ne_arr k he'
theorem Arr.grown {w w' : World} {g n : Nat} {t : TypeId} {V : Nat → Value} (h : Arr w g t n V) {row : Option Nat} (hg : w.grownBy w' row) (hne : row ≠ some g) : Arr w' g t n V :=
  (hg.block g h.lt (fun e => hne e.symm)).trans h
theorem OO.lt {w : World} {B : Nat} {v : Value} {xss : List (List Int)} (h : OO w B v xss) : ∀ k, v.ownBlock = some k → B ≤ k ∧ k < w.heap.size := by
  obtain ⟨vs, h1, _⟩ := h; exact World.ownsRow.lt h1

/-- append of one slice to a slice of slices of the call's own. -/
theorem wpList_append_row {ops : Array Oper} {rest : List Oper} {o : Oper} {a : Act} {w : World} {Q : Exit → Act → World → Prop} (hgd : o.guard = none) (s x : Operand)
    (ho : o.op = .call { callee := .builtin .append, args := #[s, x], argTypes := #[36, 36] }) (B : Nat) (v : Value) (xss : List (List Int)) (hs : a.eval s = v) (hown : OO w B v xss)
    (g : Nat) (y : Value) (ys : List Int) (hx : a.eval x = .slice (some ⟨g, 0, none⟩) 1 1) (hc : w.cell? ⟨g, 0, none⟩ = some y) (hy : OI w B y ys) (hlen : xss.length ≤ 1000000000) (hbase : B ≤ w.heap.size)
    (h : ∀ v' w', OO w' B v' (xss ++ [ys]) → w.grownBy w' v.ownBlock → wpList Try.prog ops Q rest (a.put o.dst v') w') : wpList Try.prog ops Q (o :: rest) a w := by
  obtain ⟨i0, hi, hz0, hz1, hz2⟩ := info_parts Try.infoSlice
  obtain ⟨vs, h1, h2, h3⟩ := hown
  have hone : y.oneCell' = true := by
    rcases hy.form with ⟨rfl, _⟩ | ⟨_, _, rfl, _⟩ <;> rfl
  refine wpList_append_own w hgd s x 36 ho B 22 i0 (.slice none 0 0) 1 24 Try.underlying36 hi hz0 hz1 hz2 rfl (by decide) v vs.length vs hs h1 ⟨g, 0, none⟩ 1 1 [y] hx rfl ?_ ?_ (by unfold maxLen; omega) (by omega) hbase ?_
  · intro j u hj
    match j, hj with
    | 0, hj => simp at hj; subst hj; simpa [Addr.add] using hc
  · intro u hu; simp at hu; subst hu; exact hone
  · intro v' w' k1 k2 _
    refine h v' w' ⟨vs ++ [y], by unfold ownRow; simpa using k1, by simp [h2], fun i hi => ?_⟩ k2
    simp only [List.length_append, List.length_cons, List.length_nil] at hi
    by_cases e : i < xss.length
    · have e1 : (vs ++ [y]).getD i undef = vs.getD i undef := by simp [List.getD, List.getElem?_append_left (show i < vs.length by omega)]
      have e2 : (xss ++ [ys]).getD i [] = xss.getD i [] := by simp [List.getD, List.getElem?_append_left e]
      rw [e1, e2]
      exact (h3 i e).grown k2 ((h3 i e).ne_row h1 (by decide))
    · have ei : i = xss.length := by omega
      subst ei
      have e1 : (vs ++ [y]).getD xss.length undef = y := by simp [List.getD, ← h2]
      have e2 : (xss ++ [ys]).getD xss.length [] = ys := by simp [List.getD]
      rw [e1, e2]
      exact hy.grown k2 (hy.ne_row h1 (by decide))

end Go.Proofs.Ytcllnoigppkjiaa
