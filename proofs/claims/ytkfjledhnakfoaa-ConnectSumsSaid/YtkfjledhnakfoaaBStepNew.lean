/- append of a list onto an empty slice of the call's own, at a step of a region that draws. -/
import Derived.Test.YtkfjledhnakfoaaA05
import Derived.Maps.AppendAt
namespace Go.Proofs.Ytkfjledhnakfoaa
open Go.ChangeShapes Go.WideShapes Go.ChangeAt Go.RowKit

theorem OI.empty_at {w : World} {B g : Nat} (hh : w.heap[g]? = some (.cells #[] 3 (0, 0))) (hB : B ≤ g) : OI w B (.slice (some ⟨g, 0, none⟩) 0 0) [] :=
  ⟨rfl, .inr ⟨g, 0, #[], rfl, hB, hh, Nat.le_refl _, by simp [maxLen], rfl, rfl⟩⟩

theorem heap_two0 (w : World) (o o' : Obj) : ((w.alloc o).alloc o').heap[w.heap.size]? = some o := (Below.heap_alloc (w.alloc o) o' w.heap.size (by simp)).trans (heap_alloc_new w o)
theorem heap_two1 (w : World) (o o' : Obj) : ((w.alloc o).alloc o').heap[w.heap.size + 1]? = some o' := by
  have := heap_alloc_new (w.alloc o) o'
  simpa using this

set_option maxRecDepth 100000 in
/-- append of a slice that reads as a list to an empty slice of the call's own, at a step of a region that draws. -/
theorem step_append_new {ops : Array Oper} {o : Oper} {a : Act} {w : World} {K : Act → World → Prop} {Q : Exit → Act → World → Prop} {E : Prop} (hgd : o.guard = none) (s x : Operand)
    (ho : o.op = .call { callee := .builtin .append, args := #[s, x], argTypes := #[22, 22] }) (B g : Nat) (hs : a.eval s = .slice (some ⟨g, 0, none⟩) 0 0)
    (hh : w.heap[g]? = some (.cells #[] 3 (0, 0))) (hB : B ≤ g) (A : Option Addr) (n c : Nat) (xs : List Int) (hx : a.eval x = .slice A n c) (hr : RI w A n xs) (hn : n ≤ 1000000)
    (h : ∀ A' c' w' k, OI w' B (.slice A' n c') xs → (Value.slice A' n c').ownBlock = some k → (k = g ∨ k = w.heap.size) → k < w'.heap.size → w.grownBy w' (some g) → K (a.put o.dst (.slice A' n c')) w') :
    if Region.wanted o (yielded ops a.tmps) = true then Oper.wp Try.prog o a w K Q else E := by
  have hw : Region.wanted o (yielded ops a.tmps) = true := by simp [Region.wanted, hgd]
  rw [if_pos hw]
  obtain ⟨i0, hi, hz0, hz1, hz2⟩ := info_parts Try.infoInt
  have hown := OI.empty_at hh hB
  have hgs : g < w.heap.size := by
    rcases Nat.lt_or_ge g w.heap.size with hlt | hge
    · exact hlt
    · rw [Array.getElem?_eq_none hge] at hh; cases hh
  have hl := hr.1
  cases A with
  | none =>
    have h0 : n = 0 := by
      rcases Nat.eq_zero_or_pos n with h0 | h0
      · exact h0
      · obtain ⟨b, off, e, _⟩ := hr.2 h0
        cases e
    subst h0
    have hxs : xs = [] := List.length_eq_zero_iff.1 hl
    subst hxs
    have hrun : (Builtin.append_ #[22, 22] o.type #[.slice (some ⟨g, 0, none⟩) 0 0, .slice none 0 c]).run Try.prog w = .ok (.slice (some ⟨g, 0, none⟩) 0 0) w := by
      simp [Builtin.append_, run_underlying Try.underlying22, sizeOf, typeInfo, hi, Builtin.lenOf, Builtin.firstCells, storeCells]
    unfold Oper.wp execOp
    simp only [ho, resolve, invoke, builtin, Sem.run_bind, Sem.run_pure, Result.andThen_ok, List.map_toArray, List.map_cons, List.map_nil, hs, hx, hrun]
    exact h _ _ w g hown rfl (.inl rfl) hgs (World.grownBy.refl w _)
  | some ad =>
    have hcells : ∀ j u, (ints xs)[j]? = some u → w.cell? (ad.add j) = some u := by
      intro j u hj
      have hjn : j < xs.length := by
        have := (List.getElem?_eq_some_iff.1 hj).1
        simpa [ints] using this
      obtain ⟨b, off, e, _, hc⟩ := hr.2 (by omega)
      obtain rfl := Option.some.inj e
      rw [add_plain, hc j (by omega)]
      simp [ints, hjn] at hj
      rw [← hj]
      simp [List.getD, hjn]
    obtain ⟨v', w', hrun, h1, h2, _, h3⟩ := run_append_own_at (P := Try.prog) w B 22 o.type 3 i0 (.int .i64 0) 1 8 Try.underlying22 hi hz0 hz1 hz2 rfl (by decide) (.slice (some ⟨g, 0, none⟩) 0 0) 0 [] hown ad n c (ints xs) (by simp [ints, hl]) hcells
      (fun u hu => by simp [ints] at hu; obtain ⟨z, _, rfl⟩ := hu; rfl) (by unfold maxLen; omega) (by omega) (by omega)
    have hv : ∃ A' c', v' = .slice A' n c' := by
      rcases h1.2 with ⟨e, e2⟩ | ⟨g', cap', cur, e, _⟩
      · exact ⟨none, 0, by rw [e]; simp at e2; rw [e2]⟩
      · exact ⟨some ⟨g', 0, none⟩, cap', by rw [e]; simp⟩
    obtain ⟨A', c', rfl⟩ := hv
    unfold Oper.wp execOp
    simp only [ho, resolve, invoke, builtin, Sem.run_bind, Sem.run_pure, Result.andThen_ok, List.map_toArray, List.map_cons, List.map_nil, hs, hx, hrun]
    have ho : OI w' B (.slice A' n c') xs := by
      unfold OI
      simpa [ints, hl] using h1
    rcases h3 with h3 | h3
    · exact h _ _ w' g ho h3 (.inl rfl) (World.ownsRow.lt ho g h3).2 h2
    · exact h _ _ w' w.heap.size ho h3 (.inr rfl) (World.ownsRow.lt ho _ h3).2 h2

end Go.Proofs.Ytkfjledhnakfoaa
