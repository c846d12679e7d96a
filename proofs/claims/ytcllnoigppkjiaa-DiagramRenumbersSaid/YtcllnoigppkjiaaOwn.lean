/- Words for memory: a slice of ints that the call made. -/
import Derived.Test.YtcllnoigppkjiaaArr
import Derived.Test.YtcllnoigppkjiaaOrbPlain
import Derived.Deep.AppendLies
namespace Go.Proofs.Ytcllnoigppkjiaa
open Go.RowKit

theorem Try.infoInt : (Try.prog.info? 3).map (fun i => (i.zero, i.size, i.bytes)) = some (some (.int .i64 0), 1, 8) := by kernel_rfl

abbrev ints (xs : List Int) : List Value := xs.map (Value.int .i64)
/-- v is a slice of the call's own (in a block from B on) that reads as xs. -/
def OI (w : World) (B : Nat) (v : Value) (xs : List Int) : Prop := w.ownsRow B 3 1 v xs.length (ints xs)
theorem OI.grown {w w' : World} {B : Nat} {v : Value} {xs : List Int} (h : OI w B v xs) {row : Option Nat} (hg : w.grownBy w' row) (hne : v.ownBlock = none ∨ v.ownBlock ≠ row) : OI w' B v xs := World.ownsRow.kept h hg hne
theorem grown_of_below {w w' : World} (h : Below w.heap.size w w') : w.grownBy w' none := ⟨h.os, h.tape, h.output, h.size, fun k hk _ => h.block k hk⟩
theorem OI.keep {w w' : World} {B : Nat} {v : Value} {xs : List Int} (h : OI w B v xs) (hb : Below w.heap.size w w') : OI w' B v xs :=
  h.grown (grown_of_below hb) (by cases e : v.ownBlock <;> simp)
theorem OI.alloc {w : World} {B : Nat} {v : Value} {xs : List Int} (h : OI w B v xs) (o : Obj) : OI (w.alloc o) B v xs := h.keep (below_alloc _ _)
theorem OI.mono {w : World} {B B' : Nat} {v : Value} {xs : List Int} (h : OI w B v xs) (hB : B' ≤ B) : OI w B' v xs := by
  refine ⟨h.1, h.2.imp id ?_⟩
  rintro ⟨g, cap, cur, h1, h2, h3⟩
  exact ⟨g, cap, cur, h1, by omega, h3⟩
theorem OI.far {w : World} {B : Nat} {v : Value} {xs : List Int} (h : OI w B v xs) {p : Addr} (hp : v.ownBlock ≠ some p.block) (u : Value) : OI (w.setCell p u) B v xs := by
  refine ⟨h.1, h.2.imp id ?_⟩
  rintro ⟨g, cap, cur, rfl, h2, h3, h4⟩
  exact ⟨g, cap, cur, rfl, h2, (Below.heap_setCell w p u g (by rintro rfl; exact hp rfl)).trans h3, h4⟩
theorem OI.form {w : World} {B : Nat} {v : Value} {xs : List Int} (h : OI w B v xs) : (v = .slice none 0 0 ∧ xs = []) ∨ ∃ g cap, v = .slice (some ⟨g, 0, none⟩) xs.length cap ∧ B ≤ g ∧ g < w.heap.size := by
  rcases h.2 with ⟨h1, h2⟩ | ⟨g, cap, cur, h1, h2, h3, _⟩
  · exact .inl ⟨h1, List.length_eq_zero_iff.1 h2⟩
  · refine .inr ⟨g, cap, h1, h2, ?_⟩
    rcases Nat.lt_or_ge g w.heap.size with hlt | hge
    · exact hlt
    · rw [Array.getElem?_eq_none hge] at h3; cases h3
theorem OI.form_pos {w : World} {B n : Nat} {v : Value} {xs : List Int} (h : OI w B v xs) (hl : xs.length = n) (hn : 0 < n) : ∃ g cap, v = .slice (some ⟨g, 0, none⟩) n cap := by
  rcases h.form with ⟨_, rfl⟩ | ⟨g, cap, h1, _⟩
  · simp at hl; omega
  · exact ⟨g, cap, by rw [h1, hl]⟩
theorem OI.nil (w : World) (B : Nat) : OI w B (.slice none 0 0) [] := World.ownsRow_nil w B _ _
theorem OI.one (w : World) (B : Nat) (x : Int) (hB : B ≤ w.heap.size) : OI (w.alloc (.cells #[.int .i64 x] 3)) B (.slice (some ⟨w.heap.size, 0, none⟩) 1 1) [x] :=
  World.ownsRow_lit w #[.int .i64 x] 1 hB (by simp [maxLen]) rfl
theorem OI.cell {w : World} {B g n cap : Nat} {xs : List Int} (h : OI w B (.slice (some ⟨g, 0, none⟩) n cap) xs) (j : Nat) (hj : j < xs.length) : w.cell? ⟨g, j, none⟩ = some (.int .i64 (xs.getD j 0)) := by
  have hn : n = xs.length := by
    rcases h.2 with ⟨h1, _⟩ | ⟨g', cap', cur, h1, _⟩
    · cases h1
    · injection h1
  subst hn
  have := World.ownsRow.cellAt h j (by omega)
  rw [this]
  simp [ints, List.getD, hj]
theorem OI.ri {w : World} {B : Nat} {A : Option Addr} {n c : Nat} {xs : List Int} (h : OI w B (.slice A n c) xs) : RI w A n xs := by
  rcases h.form with ⟨h1, rfl⟩ | ⟨g, cap, h1, _, hlt⟩
  · injection h1 with h1 h2 h3; subst h1; subst h2; exact RI.nil _ _
  · injection h1 with h1 h2 h3; subst h1; subst h2; subst h3
    exact ⟨rfl, fun _ => ⟨g, 0, rfl, hlt, fun j hj => by rw [Nat.zero_add]; exact h.cell j hj⟩⟩

/-- append of one int to a slice of the call's own. -/
theorem wpList_append_int {ops : Array Oper} {rest : List Oper} {o : Oper} {a : Act} {w : World} {Q : Exit → Act → World → Prop} (hgd : o.guard = none) (s x : Operand)
    (ho : o.op = .call { callee := .builtin .append, args := #[s, x], argTypes := #[22, 22] }) (B : Nat) (v : Value) (xs : List Int) (hs : a.eval s = v) (hown : OI w B v xs)
    (g : Nat) (y : Int) (hx : a.eval x = .slice (some ⟨g, 0, none⟩) 1 1) (hc : w.cell? ⟨g, 0, none⟩ = some (.int .i64 y)) (hlen : xs.length ≤ 1000000000) (hbase : B ≤ w.heap.size)
    (h : ∀ v' w', OI w' B v' (xs ++ [y]) → w.grownBy w' v.ownBlock → wpList Try.prog ops Q rest (a.put o.dst v') w') : wpList Try.prog ops Q (o :: rest) a w := by
  obtain ⟨i0, hi, hz0, hz1, hz2⟩ := info_parts Try.infoInt
  refine wpList_append_own w hgd s x 22 ho B 3 i0 (.int .i64 0) 1 8 Try.underlying22 hi hz0 hz1 hz2 rfl (by decide) v xs.length (ints xs) hs hown ⟨g, 0, none⟩ 1 1 [.int .i64 y] hx rfl ?_ ?_ (by unfold maxLen; omega) (by omega) hbase ?_
  · intro j u hj
    match j, hj with
    | 0, hj => simp at hj; subst hj; simpa [Addr.add] using hc
  · intro u hu; simp at hu; subst hu; rfl
  · intro v' w' h1 h2 _
    refine h v' w' ?_ h2
    unfold OI
    simpa [ints] using h1

end Go.Proofs.Ytcllnoigppkjiaa
