/- Words for memory: a store into one row leaves the others as they were. -/
import Derived.Test.YtcllnoigppkjiaaRowsOf
namespace Go.Proofs.Ytcllnoigppkjiaa
open Go.RowKit

theorem OI.set_ {w : World} {B g n cap : Nat} {xs : List Int} (h : OI w B (.slice (some ⟨g, 0, none⟩) n cap) xs) (hl : xs.length = n) (j : Nat) (z : Int) :
    OI (w.setCell ⟨g, j, none⟩ (.int .i64 z)) B (.slice (some ⟨g, 0, none⟩) n cap) (xs.set j z) ∧ w.grownBy (w.setCell ⟨g, j, none⟩ (.int .i64 z)) (some g) := by
  subst hl
  have := World.ownsRow.stored h j (.int .i64 z)
  refine ⟨?_, this.2⟩
  unfold OI
  simpa [ints, List.map_set] using this.1

theorem OI.apart_lt {w : World} {B : Nat} {v : Value} {xs : List Int} (h : OI w B v xs) (row : Option Nat) (hr : ∀ g, row = some g → g < B) : v.ownBlock = none ∨ v.ownBlock ≠ row := by
  cases hv : v.ownBlock with
  | none => exact .inl rfl
  | some g =>
    refine .inr fun e => ?_
    have h1 := (World.ownsRow.lt h g hv).1
    have h2 := hr g e.symm
    omega

theorem ownRow.apart_lt {w : World} {B : Nat} {e : TypeId} {v : Value} {vs : List Value} (h : ownRow w B e v vs) (row : Option Nat) (hr : ∀ g, row = some g → g < B) : v.ownBlock = none ∨ v.ownBlock ≠ row := by
  cases hv : v.ownBlock with
  | none => exact .inl rfl
  | some g =>
    refine .inr fun e => ?_
    have h1 := (World.ownsRow.lt h g hv).1
    have h2 := hr g e.symm
    omega
theorem OO.grown_lt {w w' : World} {B : Nat} {v : Value} {xss : List (List Int)} (h : OO w B v xss) {row : Option Nat} (hg : w.grownBy w' row) (hr : ∀ g, row = some g → g < B) : OO w' B v xss := by
  obtain ⟨vs, h1, h2, h3⟩ := h
  exact ⟨vs, World.ownsRow.kept h1 hg (h1.apart_lt row hr), h2, fun i hi => (h3 i hi).grown hg ((h3 i hi).apart_lt row hr)⟩
theorem grown_set {w wr : World} {g : Nat} (h : w.grownBy wr (some g)) (j : Nat) (u : Value) : w.grownBy (wr.setCell ⟨g, j, none⟩ u) (some g) :=
  h.trans ⟨rfl, rfl, rfl, by simp [World.setCell], fun k _ hne => Below.heap_setCell wr ⟨g, j, none⟩ u k (by rintro rfl; exact hne rfl)⟩
theorem grown_below {W w w' : World} {B : Nat} (hb : Below B W w) {g : Nat} (hg : w.grownBy w' (some g)) (hB : B ≤ w.heap.size) (hgB : B ≤ g) : Below B W w' := hb.grown hg hB (fun k e => by injection e with e; omega)
/-- A row of a slice of slices of the call's own. -/
theorem OO.el {w : World} {B n c : Nat} {A : Option Addr} {xss : List (List Int)} (h : OO w B (.slice A n c) xss) (k : Nat) (hk : k < xss.length) :
    n = xss.length ∧ ∃ gA A' n' c', A = some ⟨gA, 0, none⟩ ∧ B ≤ gA ∧ gA < w.heap.size ∧ w.cell? ⟨gA, k, none⟩ = some (.slice A' n' c') ∧ OI w B (.slice A' n' c') (xss.getD k []) := by
  obtain ⟨vs, h1, h2, h3⟩ := h
  have hk' : k < vs.length := by omega
  have h8 := h3 k hk
  have h9 : vs.getD k undef = vs[k] := by simp [List.getD, hk']
  rw [h9] at h8
  have hsl : ∃ A' n' c', vs[k] = .slice A' n' c' := by
    rcases h8.form with ⟨e, _⟩ | ⟨g', cap', e, _⟩
    · exact ⟨_, _, _, e⟩
    · exact ⟨_, _, _, e⟩
  obtain ⟨A', n', c', e⟩ := hsl
  rcases h1.2 with ⟨h4, h5⟩ | ⟨g, cap, cur, h4, hB, hg, _⟩
  · omega
  · injection h4 with e1 e2 e3
    have hlt : g < w.heap.size := by
      rcases Nat.lt_or_ge g w.heap.size with hlt | hge
      · exact hlt
      · rw [Array.getElem?_eq_none hge] at hg; cases hg
    subst e1; subst e2; subst e3
    have h6 : w.cell? ⟨g, k, none⟩ = vs[k]? := World.ownsRow.cellAt h1 k (by omega)
    rw [e] at h8
    exact ⟨h2, g, A', n', c', rfl, hB, hlt, by rw [h6, List.getElem?_eq_getElem hk', e], h8⟩

end Go.Proofs.Ytcllnoigppkjiaa
