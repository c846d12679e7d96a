/- Words for memory: a slice of slices of the call's own, whose rows lie apart. -/
import Derived.Test.YtcllnoigppkjiaaDv
import Derived.Maps.AppendAt
namespace Go.Proofs.Ytcllnoigppkjiaa
open Go.RowKit

/-- append of one int, and where the new slice lies. -/
theorem wpList_append_int_at {ops : Array Oper} {rest : List Oper} {o : Oper} {a : Act} {w : World} {Q : Exit → Act → World → Prop} (hgd : o.guard = none) (s x : Operand)
    (ho : o.op = .call { callee := .builtin .append, args := #[s, x], argTypes := #[22, 22] }) (B : Nat) (v : Value) (xs : List Int) (hs : a.eval s = v) (hown : OI w B v xs)
    (g : Nat) (y : Int) (hx : a.eval x = .slice (some ⟨g, 0, none⟩) 1 1) (hc : w.cell? ⟨g, 0, none⟩ = some (.int .i64 y)) (hlen : xs.length ≤ 1000000000) (hbase : B ≤ w.heap.size)
    (h : ∀ v' w', OI w' B v' (xs ++ [y]) → w.grownBy w' v.ownBlock → (v'.ownBlock = v.ownBlock ∨ v'.ownBlock = some w.heap.size) → wpList Try.prog ops Q rest (a.put o.dst v') w') : wpList Try.prog ops Q (o :: rest) a w := by
  obtain ⟨i0, hi, hz0, hz1, hz2⟩ := info_parts Try.infoInt
  refine wpList_append_own_at w hgd s x 22 ho B 3 i0 (.int .i64 0) 1 8 Try.underlying22 hi hz0 hz1 hz2 rfl (by decide) v xs.length (ints xs) hs hown ⟨g, 0, none⟩ 1 1 [.int .i64 y] hx rfl ?_ ?_ (by unfold maxLen; omega) (by omega) hbase ?_
  · intro j u hj
    match j, hj with
    | 0, hj => simp at hj; subst hj; simpa [Addr.add] using hc
  · intro u hu; simp at hu; subst hu; rfl
  · intro v' w' h1 h2 _ h4
    refine h v' w' ?_ h2 h4
    unfold OI
    simpa [ints] using h1

structure OD (w : World) (B : Nat) (v : Value) (vs : List Value) (xss : List (List Int)) : Prop where
  row : ownRow w B 22 v vs
  len : vs.length = xss.length
  el : ∀ i, i < xss.length → OI w B (vs.getD i undef) (xss.getD i [])
  apart : ∀ i j, i < xss.length → j < xss.length → i ≠ j → (vs.getD i undef).ownBlock = none ∨ (vs.getD i undef).ownBlock ≠ (vs.getD j undef).ownBlock
theorem OD.oo {w : World} {B : Nat} {v : Value} {vs : List Value} {xss : List (List Int)} (h : OD w B v vs xss) : OO w B v xss := ⟨vs, h.row, h.len, h.el⟩
theorem OD.nil (w : World) (B : Nat) : OD w B (.slice none 0 0) [] [] := ⟨World.ownsRow_nil w B _ _, rfl, fun i hi => absurd hi (by simp), fun i j hi => absurd hi (by simp)⟩
theorem OD.keep {w w' : World} {B : Nat} {v : Value} {vs : List Value} {xss : List (List Int)} (h : OD w B v vs xss) (hb : Below w.heap.size w w') : OD w' B v vs xss :=
  ⟨h.row.keep hb, h.len, fun i hi => (h.el i hi).keep hb, h.apart⟩
theorem OD.far {w : World} {B g n : Nat} {e : TypeId} {v : Value} {vs : List Value} {xss : List (List Int)} {V : Nat → Value} (h : OD w B v vs xss) (k : Arr w g e n V) (he : e ≠ 3) (he' : e ≠ 22) (j : Nat) (u : Value) : OD (w.setCell ⟨g, j, none⟩ u) B v vs xss :=
  ⟨h.row.far (h.row.ne_arr k he') u, h.len, fun i hi => (h.el i hi).far ((h.el i hi).ne_arr k he) u, h.apart⟩
theorem OD.form {w : World} {B : Nat} {v : Value} {vs : List Value} {xss : List (List Int)} (h : OD w B v vs xss) (hk : 0 < xss.length) : ∃ g cap, v = .slice (some ⟨g, 0, none⟩) xss.length cap ∧ B ≤ g ∧ g < w.heap.size := by
  rcases h.row.2 with ⟨_, h4⟩ | ⟨g, cap, cur, h4, hg, h5, _⟩
  · have := h.len; omega
  · refine ⟨g, cap, by rw [h4, h.len], hg, ?_⟩
    rcases Nat.lt_or_ge g w.heap.size with hlt | hge
    · exact hlt
    · rw [Array.getElem?_eq_none hge] at h5; cases h5

/-- append of one slice. -/
theorem wpList_append_row_od {ops : Array Oper} {rest : List Oper} {o : Oper} {a : Act} {w : World} {Q : Exit → Act → World → Prop} (hgd : o.guard = none) (s x : Operand)
    (ho : o.op = .call { callee := .builtin .append, args := #[s, x], argTypes := #[36, 36] }) (B : Nat) (v : Value) (vs : List Value) (xss : List (List Int)) (hs : a.eval s = v) (hown : OD w B v vs xss)
    (g : Nat) (hx : a.eval x = .slice (some ⟨g, 0, none⟩) 1 1) (hc : w.cell? ⟨g, 0, none⟩ = some (.slice none 0 0)) (hlen : xss.length ≤ 1000000000) (hbase : B ≤ w.heap.size)
    (h : ∀ v' w', OD w' B v' (vs ++ [.slice none 0 0]) (xss ++ [[]]) → w.grownBy w' v.ownBlock → wpList Try.prog ops Q rest (a.put o.dst v') w') : wpList Try.prog ops Q (o :: rest) a w := by
  obtain ⟨i0, hi, hz0, hz1, hz2⟩ := info_parts Try.infoSlice
  have h2 := hown.len
  refine wpList_append_own w hgd s x 36 ho B 22 i0 (.slice none 0 0) 1 24 Try.underlying36 hi hz0 hz1 hz2 rfl (by decide) v vs.length vs hs hown.row ⟨g, 0, none⟩ 1 1 [.slice none 0 0] hx rfl ?_ ?_ (by unfold maxLen; omega) (by omega) hbase ?_
  · intro j u hj
    match j, hj with
    | 0, hj => simp at hj; subst hj; simpa [Addr.add] using hc
  · intro u hu; simp at hu; subst hu; rfl
  · intro v' w' k1 k2 _
    have eL : ∀ i, i < xss.length → (vs ++ [Value.slice none 0 0]).getD i undef = vs.getD i undef := fun i e => by simp [List.getD, List.getElem?_append_left (show i < vs.length by omega)]
    have eN : (vs ++ [Value.slice none 0 0]).getD xss.length undef = .slice none 0 0 := by simp [List.getD, ← h2]
    refine h v' w' ⟨by unfold ownRow; simpa using k1, by simp [h2], fun i hi => ?_, fun i j hi hj hij => ?_⟩ k2
    · simp only [List.length_append, List.length_cons, List.length_nil] at hi
      by_cases e : i < xss.length
      · have e2 : (xss ++ [[]]).getD i [] = xss.getD i [] := by simp [List.getD, List.getElem?_append_left e]
        rw [eL i e, e2]
        exact (hown.el i e).grown k2 ((hown.el i e).ne_row hown.row (by decide))
      · have ei : i = xss.length := by omega
        subst ei
        have e2 : (xss ++ [[]]).getD xss.length [] = [] := by simp [List.getD]
        rw [eN, e2]
        exact OI.nil _ _
    · simp only [List.length_append, List.length_cons, List.length_nil] at hi hj
      by_cases ei : i < xss.length
      · rw [eL i ei]
        by_cases ej : j < xss.length
        · rw [eL j ej]; exact hown.apart i j ei ej hij
        · obtain rfl : j = xss.length := by omega
          rw [eN]
          cases hb : (vs.getD i undef).ownBlock with
          | none => exact .inl rfl
          | some q => exact .inr (by simp [Value.ownBlock])
      · obtain rfl : i = xss.length := by omega
        rw [eN]; exact .inl rfl

/-- Row k is replaced by an appended one. -/
theorem OD.set_ {w w' : World} {B k g n cap : Nat} {v' : Value} {vs : List Value} {xss : List (List Int)} {ys : List Int} (h : OD w B (.slice (some ⟨g, 0, none⟩) n cap) vs xss) (hk : k < xss.length)
    (hv : OI w' B v' ys) (hg : w.grownBy w' (vs.getD k undef).ownBlock) (hat : v'.ownBlock = (vs.getD k undef).ownBlock ∨ v'.ownBlock = some w.heap.size) :
    OD (w'.setCell ⟨g, k, none⟩ v') B (.slice (some ⟨g, 0, none⟩) n cap) (vs.set k v') (xss.set k ys) ∧ (∃ u, w'.cell? ⟨g, k, none⟩ = some u) ∧ w'.frozen? ⟨g, k, none⟩ = false := by
  have hlen := h.len
  have hrow : ownRow w' B 22 (.slice (some ⟨g, 0, none⟩) n cap) vs := World.ownsRow.kept h.row hg (by
    refine .inr fun e => ?_
    rcases (h.el k hk).ne_row h.row (by decide) with h1 | h1
    · rw [h1] at e; cases e
    · exact h1 e.symm)
  have hn : n = vs.length := by
    rcases hrow.2 with ⟨h1, _⟩ | ⟨g', cap', cur, h1, _⟩
    · cases h1
    · injection h1
  subst hn
  have hst := World.ownsRow.stored hrow k v'
  have hother : ∀ i, i < xss.length → i ≠ k → OI w' B (vs.getD i undef) (xss.getD i []) := fun i hi hik =>
    (h.el i hi).grown hg (h.apart i k hi hk hik)
  have hne3 : ∀ {u : Value} {zs : List Int}, OI w' B u zs → u.ownBlock ≠ some g := fun ho => by
    rcases ho.ne_row hrow (by decide) with h1 | h1
    · rw [h1]; simp
    · simpa [Value.ownBlock] using h1
  have eK : (vs.set k v').getD k undef = v' := by simp [List.getD, hlen, hk]
  have eO : ∀ i, i ≠ k → (vs.set k v').getD i undef = vs.getD i undef := fun i hik => by simp [List.getD, List.getElem?_set_ne (Ne.symm hik)]
  have apK : ∀ i, i < xss.length → i ≠ k → (vs.getD i undef).ownBlock = none ∨ (vs.getD i undef).ownBlock ≠ v'.ownBlock := fun i hi hik => by
    rcases hat with e | e
    · rw [e]; exact h.apart i k hi hk hik
    · cases hb : (vs.getD i undef).ownBlock with
      | none => exact .inl rfl
      | some q =>
        refine .inr fun e' => ?_
        rw [e] at e'
        have := (World.ownsRow.lt (h.el i hi) q hb).2
        injection e' with e'
        omega
  refine ⟨⟨?_, by simp [hlen], fun i hi => ?_, fun i j hi hj hij => ?_⟩, ?_, World.ownsRow.frozenAt hrow k⟩
  · have := hst.1
    unfold ownRow
    simpa using this
  · simp only [List.length_set] at hi
    by_cases e : i = k
    · subst e
      have e2 : (xss.set i ys).getD i [] = ys := by simp [List.getD, hi]
      rw [eK, e2]
      exact hv.far (p := ⟨g, i, none⟩) (hne3 hv) _
    · have e2 : (xss.set k ys).getD i [] = xss.getD i [] := by simp [List.getD, List.getElem?_set_ne (Ne.symm e)]
      rw [eO i e, e2]
      exact (hother i hi e).far (p := ⟨g, k, none⟩) (hne3 (hother i hi e)) _
  · simp only [List.length_set] at hi hj
    by_cases ei : i = k
    · subst ei
      rw [eK, eO j (Ne.symm hij)]
      rcases apK j hj (Ne.symm hij) with h1 | h1
      · cases hb : v'.ownBlock with
        | none => exact .inl rfl
        | some q => exact .inr (by rw [h1]; simp)
      · exact .inr (Ne.symm h1)
    · rw [eO i ei]
      by_cases ej : j = k
      · subst ej; rw [eK]; exact apK i hi ei
      · rw [eO j ej]; exact h.apart i j hi hj hij
  · have := World.ownsRow.cellAt hrow k (by omega)
    rw [this]
    exact ⟨_, List.getElem?_eq_getElem (by omega)⟩
theorem OD.cell {w : World} {B k g n cap : Nat} {vs : List Value} {xss : List (List Int)} (h : OD w B (.slice (some ⟨g, 0, none⟩) n cap) vs xss) (hk : k < xss.length) : w.cell? ⟨g, k, none⟩ = some (vs.getD k undef) := by
  have hn : n = vs.length := by
    rcases h.row.2 with ⟨h1, _⟩ | ⟨g', cap', cur, h1, _⟩
    · cases h1
    · injection h1
  have hl := h.len
  subst hn
  have := World.ownsRow.cellAt h.row k (by omega)
  rw [this, List.getElem?_eq_getElem (by omega)]
  have hkv : k < vs.length := by omega
  simp [List.getD, hkv]

end Go.Proofs.Ytcllnoigppkjiaa
