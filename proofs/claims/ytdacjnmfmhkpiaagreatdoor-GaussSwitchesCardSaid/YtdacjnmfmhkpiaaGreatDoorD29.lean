import Derived.Test.YtdacjnmfmhkpiaaGreatDoorD14
/- Words for memory: two slices of the call's own of one type, side by side: appends to either leave the other. -/
namespace Go.Proofs.YtdacjnmfmhkpiaaGreatDoor
open Go.RowKit

/-- Two own rows that lie apart. -/
structure Two (w : World) (B : Nat) (te : TypeId) (sz : Nat) (v1 : Value) (n1 : Nat) (xs1 : List Value) (v2 : Value) (n2 : Nat) (xs2 : List Value) : Prop where
  a : w.ownsRow B te sz v1 n1 xs1
  b : w.ownsRow B te sz v2 n2 xs2
  ap : v1.ownBlock = none ∨ v1.ownBlock ≠ v2.ownBlock
theorem ap_swap {a b : Option Nat} (h : a = none ∨ a ≠ b) : b = none ∨ b ≠ a := by
  rcases h with h | h
  · subst h
    cases b with
    | none => exact .inl rfl
    | some k => exact .inr (by simp)
  · exact .inr fun e => h e.symm
theorem Two.nil (w : World) (B : Nat) (te : TypeId) (sz : Nat) : Two w B te sz (.slice none 0 0) 0 [] (.slice none 0 0) 0 [] := ⟨World.ownsRow_nil w B _ _, World.ownsRow_nil w B _ _, .inl rfl⟩
theorem Two.swap {w : World} {B : Nat} {te : TypeId} {sz : Nat} {v1 v2 : Value} {n1 n2 : Nat} {xs1 xs2 : List Value} (h : Two w B te sz v1 n1 xs1 v2 n2 xs2) : Two w B te sz v2 n2 xs2 v1 n1 xs1 := ⟨h.b, h.a, ap_swap h.ap⟩
theorem Two.keep {w w' : World} {B : Nat} {te : TypeId} {sz : Nat} {v1 v2 : Value} {n1 n2 : Nat} {xs1 xs2 : List Value} (h : Two w B te sz v1 n1 xs1 v2 n2 xs2) (hb : Below w.heap.size w w') : Two w' B te sz v1 n1 xs1 v2 n2 xs2 :=
  ⟨World.ownsRow.kept h.a (grown_of_below hb) (by cases v1.ownBlock <;> simp), World.ownsRow.kept h.b (grown_of_below hb) (by cases v2.ownBlock <;> simp), h.ap⟩
/-- The first has grown. -/
theorem Two.app {w w' : World} {B : Nat} {te : TypeId} {sz : Nat} {v1 v1' v2 : Value} {n1 n1' n2 : Nat} {xs1 xs1' xs2 : List Value} (h : Two w B te sz v1 n1 xs1 v2 n2 xs2) (ho : w'.ownsRow B te sz v1' n1' xs1') (hg : w.grownBy w' v1.ownBlock) (hat : v1'.ownBlock = v1.ownBlock ∨ v1'.ownBlock = some w.heap.size) :
    Two w' B te sz v1' n1' xs1' v2 n2 xs2 := by
  refine ⟨ho, World.ownsRow.kept h.b hg (ap_swap h.ap), ?_⟩
  rcases hat with e | e
  · rw [e]; exact h.ap
  · rw [e]
    exact .inr fun e2 => by have := (World.ownsRow.lt h.b _ e2.symm).2; omega

/-- Of an own row of such slices: its row and its slices are as they were. -/
theorem VR.kept {w w' : World} {B : Nat} {tr te : TypeId} {v : Value} {vals : List Value} {vss : List (List Vis)} (h : VR w B tr te v vals vss) (hr : ownRow w' B tr v vals) (hk : ∀ b, B ≤ b → (∃ cs fz, w.heap[b]? = some (.cells cs te fz)) → w'.heap[b]? = w.heap[b]?) : VR w' B tr te v vals vss := by
  obtain ⟨_, h2, h3⟩ := h
  refine ⟨hr, h2, fun i hi => ?_⟩
  obtain ⟨A, n, c, h4, h5⟩ := h3 i hi
  exact ⟨A, n, c, h4, h5.move hk⟩
theorem grown_els {W w' : World} {tr te : TypeId} {row : Option Nat} (hv : ∀ g, row = some g → ∃ cur, W.heap[g]? = some (.cells cur tr (0, 0))) (hg : W.grownBy w' row) (hte : te ≠ tr) (b : Nat) (hx : ∃ cs fz, W.heap[b]? = some (.cells cs te fz)) : w'.heap[b]? = W.heap[b]? := by
  obtain ⟨cs, fz, hx⟩ := hx
  refine hg.block b (Array.getElem?_eq_some_iff.1 hx).1 fun e => ?_
  obtain ⟨cur, h4⟩ := hv b e.symm
  rw [hx] at h4
  injection h4 with h4
  injection h4 with _ h4 _
  exact hte h4
/-- Another row of the same type has grown. -/
theorem VR.other {W w' : World} {B : Nat} {tr te : TypeId} {v1 v2 : Value} {vals1 vals2 : List Value} {vss : List (List Vis)} (h : VR W B tr te v2 vals2 vss) (h1 : ownRow W B tr v1 vals1) (hg : W.grownBy w' v1.ownBlock) (hap : v1.ownBlock = none ∨ v1.ownBlock ≠ v2.ownBlock) (hte : te ≠ tr) : VR w' B tr te v2 vals2 vss :=
  h.kept (World.ownsRow.kept h.1 hg (ap_swap hap)) fun b _ hx => grown_els (fun _ e => h1.type e) hg hte b hx
/-- One slice more; the world as it stands at the append. -/
theorem VR.more {W w3 : World} {B : Nat} {tr te : TypeId} {v v3 : Value} {vals : List Value} {vss : List (List Vis)} {A : Option Addr} {n c : Nat} {l : List Vis} (h : VR W B tr te v vals vss) (hv : VEl W B te A n l)
    (hrow : ownRow w3 B tr v3 (vals ++ [.slice A n c])) (hg : W.grownBy w3 v.ownBlock) (hte : te ≠ tr) : VR w3 B tr te v3 (vals ++ [.slice A n c]) (vss ++ [l]) := by
  obtain ⟨h1, h2, h3⟩ := h
  have hk : ∀ b, B ≤ b → (∃ cs fz, W.heap[b]? = some (.cells cs te fz)) → w3.heap[b]? = W.heap[b]? := fun b _ hx => grown_els (fun _ e => h1.type e) hg hte b hx
  refine ⟨hrow, by simp [h2], fun i hi => ?_⟩
  rw [List.length_append] at hi
  by_cases e : i < vss.length
  · obtain ⟨A', n', c', h4, h5⟩ := h3 i e
    refine ⟨A', n', c', ?_, ?_⟩
    · rw [← h4]; simp [List.getD, List.getElem?_append_left (show i < vals.length by omega)]
    · have : (vss ++ [l]).getD i [] = vss.getD i [] := by simp [List.getD, List.getElem?_append_left e]
      rw [this]
      exact h5.move hk
  · simp at hi
    obtain rfl : i = vss.length := by omega
    refine ⟨A, n, c, ?_, ?_⟩
    · rw [← h2]; simp [List.getD]
    · have : (vss ++ [l]).getD vss.length [] = l := by simp [List.getD]
      rw [this]
      exact hv.move hk
theorem VEl.grown {W w' : World} {B : Nat} {tr te : TypeId} {v1 : Value} {vals1 : List Value} {A : Option Addr} {n : Nat} {l : List Vis} (h : VEl W B te A n l) (h1 : ownRow W B tr v1 vals1) (hg : W.grownBy w' v1.ownBlock) (hte : te ≠ tr) : VEl w' B te A n l :=
  h.move fun b _ hx => grown_els (fun _ e => h1.type e) hg hte b hx

/-- Two own rows of such slices, apart. -/
structure TwoR (w : World) (B : Nat) (tr te : TypeId) (v1 : Value) (vals1 : List Value) (vss1 : List (List Vis)) (v2 : Value) (vals2 : List Value) (vss2 : List (List Vis)) : Prop where
  a : VR w B tr te v1 vals1 vss1
  b : VR w B tr te v2 vals2 vss2
  ap : v1.ownBlock = none ∨ v1.ownBlock ≠ v2.ownBlock
theorem TwoR.swap {w : World} {B : Nat} {tr te : TypeId} {v1 v2 : Value} {vals1 vals2 : List Value} {vss1 vss2 : List (List Vis)} (h : TwoR w B tr te v1 vals1 vss1 v2 vals2 vss2) : TwoR w B tr te v2 vals2 vss2 v1 vals1 vss1 := ⟨h.b, h.a, ap_swap h.ap⟩
theorem TwoR.keep {w w' : World} {B : Nat} {tr te : TypeId} {v1 v2 : Value} {vals1 vals2 : List Value} {vss1 vss2 : List (List Vis)} (h : TwoR w B tr te v1 vals1 vss1 v2 vals2 vss2) (hb : Below w.heap.size w w') : TwoR w' B tr te v1 vals1 vss1 v2 vals2 vss2 := ⟨h.a.keep hb, h.b.keep hb, h.ap⟩
theorem TwoR.set {w : World} {B : Nat} {tr te : TypeId} {v1 v2 : Value} {vals1 vals2 : List Value} {vss1 vss2 : List (List Vis)} (h : TwoR w B tr te v1 vals1 vss1 v2 vals2 vss2) {p : Addr} (hp : p.block < B) (u : Value) : TwoR (w.setCell p u) B tr te v1 vals1 vss1 v2 vals2 vss2 := ⟨h.a.set hp u, h.b.set hp u, h.ap⟩
/-- The first has one slice more. -/
theorem TwoR.app {W w3 : World} {B : Nat} {tr te : TypeId} {v1 v2 v3 : Value} {vals1 vals2 : List Value} {vss1 vss2 : List (List Vis)} {A : Option Addr} {n c : Nat} {l : List Vis} (h : TwoR W B tr te v1 vals1 vss1 v2 vals2 vss2) (hv : VEl W B te A n l)
    (hrow : ownRow w3 B tr v3 (vals1 ++ [.slice A n c])) (hg : W.grownBy w3 v1.ownBlock) (hat : v3.ownBlock = v1.ownBlock ∨ v3.ownBlock = some W.heap.size) (hte : te ≠ tr) : TwoR w3 B tr te v3 (vals1 ++ [.slice A n c]) (vss1 ++ [l]) v2 vals2 vss2 := by
  refine ⟨h.a.more hv hrow hg hte, h.b.other h.a.1 hg h.ap hte, ?_⟩
  rcases hat with e | e
  · rw [e]; exact h.ap
  · rw [e]
    exact .inr fun e2 => by have := (World.ownsRow.lt h.b.1 _ e2.symm).2; omega

end Go.Proofs.YtdacjnmfmhkpiaaGreatDoor
