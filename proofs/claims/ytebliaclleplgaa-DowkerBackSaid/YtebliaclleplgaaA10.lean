import Derived.Test.YtebliaclleplgaaA02
import Derived.Deep.RegionLaw
import Derived.Test.YtebliaclleplgaaA09
import Derived.Test.YtebliaclleplgaaA05
import Derived.Test.YtebliaclleplgaaA03
import Derived.Test.YtebliaclleplgaaA06
/- Words: append of one element to a row of the call's own, as a step of a region that draws, and at a plain place. -/
namespace Go.Proofs.Ytebliaclleplgaa
open Go.RowKit

theorem ownRow.slice {w : World} {B : Nat} {e : TypeId} {v : Value} {vs : List Value} (h : ownRow w B e v vs) : ∃ A c, v = .slice A vs.length c := by
  rcases h.2 with ⟨h1, h2⟩ | ⟨g, cap, cur, h1, _⟩
  · exact ⟨none, 0, by rw [h1, h2]⟩
  · exact ⟨_, cap, h1⟩
theorem step_append_row {P : Program} {ops : Array Oper} {o : Oper} {a : Act} {w : World} {K : Act → World → Prop} {Q : Exit → Act → World → Prop} {E : Prop} (hgd : o.guard = none) (s x : Operand) (tt tr : TypeId) (z : Value) (bytes : Nat)
    (ho : o.op = .call { callee := .builtin .append, args := #[s, x], argTypes := #[tt, tt] }) (ht : P.underlying tt = some (.slice tr)) (hi : (P.info? tr).map (fun i => (i.zero, i.size, i.bytes)) = some (some z, 1, bytes)) (hz : z.cells.size = 1) (hby : bytes ≤ 24)
    (B : Nat) (v : Value) (vs : List Value) (hs : a.eval s = v) (hown : ownRow w B tr v vs) (g : Nat) (u : Value) (hx : a.eval x = .slice (some ⟨g, 0, none⟩) 1 1) (hc : w.cell? ⟨g, 0, none⟩ = some u) (hu : u.oneCell' = true) (hlen : vs.length ≤ 1000000) (hbase : B ≤ w.heap.size)
    (h : ∀ A' c' w', ownRow w' B tr (.slice A' (vs.length + 1) c') (vs ++ [u]) → w.grownBy w' v.ownBlock → K (a.put o.dst (.slice A' (vs.length + 1) c')) w') :
    if Region.wanted o (yielded ops a.tmps) = true then Oper.wp P o a w K Q else E := by
  have hw : Region.wanted o (yielded ops a.tmps) = true := by simp [Region.wanted, hgd]
  rw [if_pos hw]
  obtain ⟨i0, hi0, hz0, hz1, hz2⟩ := info_parts hi
  have hb24 : (vs.length + 1) * bytes ≤ 140737488355328 := by
    have h1 : (vs.length + 1) * bytes ≤ 1000001 * 24 := Nat.mul_le_mul (by omega) hby
    omega
  obtain ⟨v', w', hrun, h1, h2, h3⟩ := run_append_own (P := P) w B tt o.type tr i0 z 1 bytes ht hi0 hz0 hz1 hz2 hz (by decide) v vs.length vs hown ⟨g, 0, none⟩ 1 1 [u] rfl
    (fun j u' hj => by
      match j, hj with
      | 0, hj => simp at hj; subst hj; simpa [Addr.add] using hc)
    (fun u' hu' => by simp at hu'; subst hu'; exact hu) (by unfold maxLen; omega) hb24 hbase
  have h4 : ownRow w' B tr v' (vs ++ [u]) := by unfold ownRow; simpa using h1
  obtain ⟨A', c', rfl⟩ := h4.slice
  unfold Oper.wp execOp
  simp only [ho, resolve, invoke, builtin, Sem.run_bind, Sem.run_pure, Result.andThen_ok, List.map_toArray, List.map_cons, List.map_nil, hs, hx, hrun]
  have e : (vs ++ [u]).length = vs.length + 1 := by simp
  rw [e] at h4 ⊢
  exact h A' c' w' h4 h2
theorem wpList_append_row1 {P : Program} {ops : Array Oper} {rest : List Oper} {o : Oper} {a : Act} {w : World} {Q : Exit → Act → World → Prop} (hgd : o.guard = none) (s x : Operand) (tt tr : TypeId) (z : Value) (bytes : Nat)
    (ho : o.op = .call { callee := .builtin .append, args := #[s, x], argTypes := #[tt, tt] }) (ht : P.underlying tt = some (.slice tr)) (hi : (P.info? tr).map (fun i => (i.zero, i.size, i.bytes)) = some (some z, 1, bytes)) (hz : z.cells.size = 1) (hby : bytes ≤ 24)
    (B : Nat) (v : Value) (vs : List Value) (hs : a.eval s = v) (hown : ownRow w B tr v vs) (g : Nat) (u : Value) (hx : a.eval x = .slice (some ⟨g, 0, none⟩) 1 1) (hc : w.cell? ⟨g, 0, none⟩ = some u) (hu : u.oneCell' = true) (hlen : vs.length ≤ 1000000) (hbase : B ≤ w.heap.size)
    (h : ∀ A' c' w', ownRow w' B tr (.slice A' (vs.length + 1) c') (vs ++ [u]) → w.grownBy w' v.ownBlock → wpList P ops Q rest (a.put o.dst (.slice A' (vs.length + 1) c')) w') : wpList P ops Q (o :: rest) a w := by
  obtain ⟨i0, hi0, hz0, hz1, hz2⟩ := info_parts hi
  have hb24 : (vs.length + 1) * bytes ≤ 140737488355328 := by
    have h1 : (vs.length + 1) * bytes ≤ 1000001 * 24 := Nat.mul_le_mul (by omega) hby
    omega
  refine wpList_append_own w hgd s x tt ho B tr i0 z 1 bytes ht hi0 hz0 hz1 hz2 hz (by decide) v vs.length vs hs hown ⟨g, 0, none⟩ 1 1 [u] hx rfl
    (fun j u' hj => by
      match j, hj with
      | 0, hj => simp at hj; subst hj; simpa [Addr.add] using hc)
    (fun u' hu' => by simp at hu'; subst hu'; exact hu) (by unfold maxLen; omega) hb24 hbase ?_
  intro v' w' h1 h2 _
  have h4 : ownRow w' B tr v' (vs ++ [u]) := by unfold ownRow; simpa using h1
  obtain ⟨A', c', rfl⟩ := h4.slice
  have e : (vs ++ [u]).length = vs.length + 1 := by simp
  rw [e] at h4 ⊢
  exact h A' c' w' h4 h2

end Go.Proofs.Ytebliaclleplgaa

/- Walk: reflected. -/
namespace Go.Proofs.Ytebliaclleplgaa
open Go.RowKit

def rfN (h : Nat) : Nat := h / 4 * 4 + (4 - h % 4) % 4
theorem rfN_rfN (h : Nat) : rfN (rfN h) = h := by unfold rfN; omega
theorem rfN_lt {h n : Nat} (hh : h < 4 * n) : rfN h < 4 * n := by unfold rfN; omega
def rfM (pM : Nat → Nat) (nm : Nat) : List Int := (List.range nm).map fun h => ((rfN (pM (rfN h)) : Nat) : Int)
theorem to_any (h : Nat) (w : World) (hh : h ≤ 1000) : Calls Try.prog 25 #[.int .i64 (h : Nat)] w fun e w' => e = .returned (.int .i64 (rfN h : Nat)) ∧ w = w' := by
  obtain ⟨q, hq⟩ : ∃ q, h / 4 = q := ⟨_, rfl⟩
  obtain ⟨r, hr⟩ : ∃ r, h % 4 = r := ⟨_, rfl⟩
  obtain ⟨t, ht⟩ : ∃ t, (4 - r) % 4 = t := ⟨_, rfl⟩
  have hr4 : r < 4 := by omega
  have h0 : (0 : Int) ≤ (h : Int) := Int.natCast_nonneg _
  have h1 : (h : Int) ≤ 1000 := by omega
  have h2 : (h : Int) / 4 = (q : Int) := by omega
  have h3 : (h : Int) % 4 = (r : Int) := by omega
  have h4 : (4 - (r : Int)) % 4 = (t : Int) := by omega
  have q0 : (0 : Int) ≤ (q : Int) := Int.natCast_nonneg _
  have q1 : (q : Int) ≤ 1000 := by omega
  have r0 : (0 : Int) ≤ (r : Int) := Int.natCast_nonneg _
  have r1 : (r : Int) < 4 := by omega
  have t0 : (0 : Int) ≤ (t : Int) := Int.natCast_nonneg _
  have t1 : (t : Int) < 4 := by omega
  have HE : Hid (((rfN h : Nat) : Int) = (q : Int) * 4 + (t : Int)) := Lib.hid (by unfold rfN; rw [hq, hr, ht]; omega)
  clear hq hr ht
  go_enter Try.func25, Try.ntmps25
  go_wp2
  go_ret
  exact ⟨ret_int (by rw [HE.out]), rfl⟩

/-- Behind the first region: a box of no signs, an array of zeros, the loops. -/
def RfBox (wA : World) (nm : Nat) (lp : Int) (v : Value) (wX : World) : Prop :=
  ∃ gD gM, v = .pointer (some ⟨gD, 0, none⟩) ∧ wX.cell? ⟨gD, 0, none⟩ = some (.slice none 0 0) ∧ wX.cell? ⟨gD, 1, none⟩ = some (.slice (some ⟨gM, 0, none⟩) nm nm) ∧ wX.cell? ⟨gD, 2, none⟩ = some (.int .i64 lp) ∧ (∀ i, wX.frozen? ⟨gD, i, none⟩ = false) ∧ gD < wX.heap.size ∧ Arr wX gM 3 nm (iv fun _ => 0) ∧ gD ≠ gM ∧ wA.heap.size ≤ gD ∧ wA.heap.size ≤ gM ∧ Below wA.heap.size wA wX

theorem rf_box1 (w0 : World) (nm : Nat) (lp : Int) : RfBox w0 nm lp (.pointer (some ⟨w0.heap.size + 1, 0, none⟩)) ((w0.alloc (.cells (cellsN nm fun _ => .int .i64 0) 3)).alloc (.cells #[.slice none 0 0, .slice (some ⟨w0.heap.size, 0, none⟩) nm nm, .int .i64 lp] 24)).drew := by
  have h0 : ∀ i, ((w0.alloc (.cells (cellsN nm fun _ => .int .i64 0) 3)).alloc (.cells #[.slice none 0 0, .slice (some ⟨w0.heap.size, 0, none⟩) nm nm, .int .i64 lp] 24)).cell? ⟨w0.heap.size + 1, i, none⟩ = #[.slice none 0 0, .slice (some ⟨w0.heap.size, 0, none⟩) nm nm, .int .i64 lp][i]? := fun i => by
    have e : w0.heap.size + 1 = (w0.alloc (.cells (cellsN nm fun _ => .int .i64 0) 3)).heap.size := by simp
    rw [e, World.cell?_alloc_at _ _ _ _ rfl]
  have hf : ∀ i, ((w0.alloc (.cells (cellsN nm fun _ => .int .i64 0) 3)).alloc (.cells #[.slice none 0 0, .slice (some ⟨w0.heap.size, 0, none⟩) nm nm, .int .i64 lp] 24)).frozen? ⟨w0.heap.size + 1, i, none⟩ = false := fun i => by
    have e : w0.heap.size + 1 = (w0.alloc (.cells (cellsN nm fun _ => .int .i64 0) 3)).heap.size := by simp
    rw [e]; exact World.frozen?_alloc_at _ _ _ _ rfl
  exact ⟨_, _, rfl, h0 0, h0 1, h0 2, hf, by simp, (arr0 w0 nm).alloc _, by omega, by omega, by omega, (below_step (below_alloc w0 _) (below_alloc _ _)).drew⟩
theorem rf_box2 (w0 : World) (nm : Nat) (lp : Int) : RfBox w0 nm lp (.pointer (some ⟨w0.heap.size, 0, none⟩)) ((w0.alloc (.cells #[.slice none 0 0, .slice (some ⟨w0.heap.size + 1, 0, none⟩) nm nm, .int .i64 lp] 24)).alloc (.cells (cellsN nm fun _ => .int .i64 0) 3)).drew := by
  have hb := below_alloc (w0.alloc (.cells #[.slice none 0 0, .slice (some ⟨w0.heap.size + 1, 0, none⟩) nm nm, .int .i64 lp] 24)) (.cells (cellsN nm fun _ => .int .i64 0) 3)
  have hlt : w0.heap.size < (w0.alloc (.cells #[.slice none 0 0, .slice (some ⟨w0.heap.size + 1, 0, none⟩) nm nm, .int .i64 lp] 24)).heap.size := by simp
  have h0 : ∀ i, ((w0.alloc (.cells #[.slice none 0 0, .slice (some ⟨w0.heap.size + 1, 0, none⟩) nm nm, .int .i64 lp] 24)).alloc (.cells (cellsN nm fun _ => .int .i64 0) 3)).cell? ⟨w0.heap.size, i, none⟩ = #[.slice none 0 0, .slice (some ⟨w0.heap.size + 1, 0, none⟩) nm nm, .int .i64 lp][i]? := fun i => by
    rw [hb.cell (p := ⟨w0.heap.size, i, none⟩) hlt, World.cell?_alloc_at _ _ _ _ rfl]
  have hf : ∀ i, ((w0.alloc (.cells #[.slice none 0 0, .slice (some ⟨w0.heap.size + 1, 0, none⟩) nm nm, .int .i64 lp] 24)).alloc (.cells (cellsN nm fun _ => .int .i64 0) 3)).frozen? ⟨w0.heap.size, i, none⟩ = false := fun i =>
    (hb.frozen (p := ⟨w0.heap.size, i, none⟩) hlt).trans (World.frozen?_alloc_at _ _ _ _ rfl)
  have hA := arr0 (w0.alloc (.cells #[.slice none 0 0, .slice (some ⟨w0.heap.size + 1, 0, none⟩) nm nm, .int .i64 lp] 24)) nm
  rw [show (w0.alloc (.cells #[.slice none 0 0, .slice (some ⟨w0.heap.size + 1, 0, none⟩) nm nm, .int .i64 lp] 24)).heap.size = w0.heap.size + 1 by simp] at hA
  exact ⟨_, _, rfl, h0 0, h0 1, h0 2, hf, by simp <;> omega, hA, by omega, by omega, by omega, (below_step (below_alloc w0 _) (below_alloc _ _)).drew⟩

/-- The box of the reflection while it grows. -/
structure RfI (w0 wr : World) (gD gM BB nm : Nat) (lp : Int) (v : Value) (xs : List Int) (V : Nat → Value) : Prop where
  below : Below w0.heap.size w0 wr
  base : BB ≤ wr.heap.size
  b0 : wr.cell? ⟨gD, 0, none⟩ = some v
  b1 : wr.cell? ⟨gD, 1, none⟩ = some (.slice (some ⟨gM, 0, none⟩) nm nm)
  b2 : wr.cell? ⟨gD, 2, none⟩ = some (.int .i64 lp)
  bf : ∀ i, wr.frozen? ⟨gD, i, none⟩ = false
  own : OI wr BB v xs
  arr : Arr wr gM 3 nm V

theorem RfI.step {w0 wr w1 w5 : World} {gD gM BB nm : Nat} {lp : Int} {v v' : Value} {xs : List Int} {V : Nat → Value} {u : Int} (h : RfI w0 wr gD gM BB nm lp v xs V) (hD : gD < BB) (hM : gM < BB) (hne : gD ≠ gM) (h0 : w0.heap.size ≤ gD) (hb1 : Below wr.heap.size wr w1) (hg : w1.grownBy w5 v.ownBlock) (ho : OI w5 BB v' (xs ++ [u])) :
    RfI w0 (w5.setCell ⟨gD, 0, none⟩ v') gD gM BB nm lp v' (xs ++ [u]) V := by
  have hs1 := hb1.size
  have hbs := h.base
  have hs5 := hg.size
  have hws := h.below.size
  have hown : ∀ q, v.ownBlock = some q → BB ≤ q := fun q hq => (World.ownsRow.lt h.own q hq).1
  have hnD : some gD ≠ v.ownBlock := fun e => by have := hown gD e.symm; omega
  have hnM : some gM ≠ v.ownBlock := fun e => by have := hown gM e.symm; omega
  have c : ∀ i, w5.cell? ⟨gD, i, none⟩ = wr.cell? ⟨gD, i, none⟩ := fun i => (hg.cell_far ⟨gD, i, none⟩ (by simp; omega) hnD).trans (hb1.cell (p := ⟨gD, i, none⟩) (by simp; omega))
  have cf : ∀ i, w5.frozen? ⟨gD, i, none⟩ = wr.frozen? ⟨gD, i, none⟩ := fun i => (hg.frozen_far ⟨gD, i, none⟩ (by simp; omega) hnD).trans (hb1.frozen (p := ⟨gD, i, none⟩) (by simp; omega))
  refine ⟨below_set ((below_step h.below hb1).grown hg (by omega) (fun q hq => by have := hown q hq; omega)) h0 _, ?_, ?_, ?_, ?_, ?_, ?_, ?_⟩
  · simp [World.setCell]; omega
  · exact World.cell?_setCell_same _ _ _ ((c 0).trans h.b0)
  · rw [World.cell?_setCell_other _ _ _ _ (by simp)]; exact (c 1).trans h.b1
  · rw [World.cell?_setCell_other _ _ _ _ (by simp)]; exact (c 2).trans h.b2
  · intro i
    exact (World.frozen?_setCell _ _ _ _).trans ((cf i).trans (h.bf i))
  · exact ho.far (fun e => by have := (World.ownsRow.lt ho gD e).1; omega) _
  · exact Arr.far ((hg.block gM (by have := h.arr.lt; omega) hnM).trans (h.arr.keep hb1)) (fun e => hne e.symm) _
theorem RfI.mid {w0 wr w1 w5 : World} {gD gM BB nm : Nat} {lp : Int} {v : Value} {xs : List Int} {V : Nat → Value} (h : RfI w0 wr gD gM BB nm lp v xs V) (hD : gD < BB) (hb1 : Below wr.heap.size wr w1) (hg : w1.grownBy w5 v.ownBlock) : w5.cell? ⟨gD, 0, none⟩ = some v ∧ w5.frozen? ⟨gD, 0, none⟩ = false := by
  have hs1 := hb1.size
  have hbs := h.base
  have hnD : some gD ≠ v.ownBlock := fun e => by have := (World.ownsRow.lt h.own gD e.symm).1; omega
  exact ⟨((hg.cell_far ⟨gD, 0, none⟩ (by simp; omega) hnD).trans (hb1.cell (p := ⟨gD, 0, none⟩) (by simp; omega))).trans h.b0, ((hg.frozen_far ⟨gD, 0, none⟩ (by simp; omega) hnD).trans (hb1.frozen (p := ⟨gD, 0, none⟩) (by simp; omega))).trans (h.bf 0)⟩
theorem RfI.put {w0 wr : World} {gD gM BB nm : Nat} {lp : Int} {v : Value} {xs : List Int} {V V' : Nat → Value} (h : RfI w0 wr gD gM BB nm lp v xs V) (hM : gM < BB) (hne : gD ≠ gM) (h0 : w0.heap.size ≤ gM) (j : Nat) (u : Value) (hV : ∀ i, i < nm → (if i = j then u else V i) = V' i) : RfI w0 (wr.drew.setCell ⟨gM, j, none⟩ u) gD gM BB nm lp v xs V' := by
  refine ⟨below_set h.below.drew h0 _, by simp [World.setCell]; exact h.base, ?_, ?_, ?_, ?_, ?_, ?_⟩
  · rw [World.cell?_setCell_other _ _ _ _ (by first | (simp; done) | (simp; omega))]; exact h.b0
  · rw [World.cell?_setCell_other _ _ _ _ (by first | (simp; done) | (simp; omega))]; exact h.b1
  · rw [World.cell?_setCell_other _ _ _ _ (by first | (simp; done) | (simp; omega))]; exact h.b2
  · intro i; exact (World.frozen?_setCell _ _ _ _).trans (h.bf i)
  · exact (h.own.keep (Below.refl _ _).drew).far (fun e => by have := (World.ownsRow.lt h.own gM e).1; omega) _
  · exact (h.arr.drew.set j u).congr hV
def rfV (pM : Nat → Nat) (j : Nat) : Nat → Value := fun h => .int .i64 ((if rfN h < j then rfN (pM (rfN h)) else 0 : Nat) : Int)
theorem rfV_step (pM : Nat → Nat) (j : Nat) (i : Nat) : (if i = rfN j then (.int .i64 ((rfN (pM j) : Nat) : Int) : Value) else rfV pM j i) = rfV pM (j + 1) i := by
  unfold rfV
  by_cases e : i = rfN j
  · subst e; rw [if_pos rfl, rfN_rfN, if_pos (by omega)]
  · have h1 : rfN i ≠ j := fun h => e (by rw [← h, rfN_rfN])
    have h2 : rfN i < j + 1 ↔ rfN i < j := by omega
    simp [e, h2]
def negs (s : List Int) (k : Nat) : List Int := (List.range k).map fun i => -(s.getD i 0)
theorem negs_succ (s : List Int) (k : Nat) : negs s (k + 1) = negs s k ++ [-(s.getD k 0)] := by unfold negs; rw [List.range_succ, List.map_append]; rfl
theorem negs_len (s : List Int) (k : Nat) : (negs s k).length = k := by simp [negs]

set_option maxHeartbeats 6400000 in
set_option maxRecDepth 100000 in
theorem reflected_any (A B : Option Addr) (n cs nm cm : Nat) (lp : Int) (s m : List Int) (pM : Nat → Nat) (w : World) (hs : RI w A n s) (hm : RI w B nm m) (hnm : nm = 4 * n) (hn0 : 0 < n) (hn : n ≤ 64)
    (hM : ∀ h, h < nm → m.getD h 0 = (pM h : Int) ∧ pM h < nm) (hS : ∀ i, i < n → s.getD i 0 = 1 ∨ s.getD i 0 = -1) :
    Calls Try.prog 12 #[dval A n cs B nm cm lp] w fun e w' => ∃ A' c' B', e = .returned (dval A' n c' B' nm nm lp) ∧ RI w' A' n (negs s n) ∧ RI w' B' nm (rfM pM nm) ∧ Below w.heap.size w w' := by
  have hmk : ∀ W, (Instr.makeSlice 22 (.int .i64 (nm : Int)) (.int .i64 (nm : Int))).run Try.prog W = .ok (.slice (some ⟨W.heap.size, 0, none⟩) nm nm) (W.alloc (.cells (cellsN nm fun _ => .int .i64 0) 3)) := fun W =>
    make_one (P := Try.prog) Try.underlying22 Try.infoInt rfl nm (by omega) (by omega) W
  have HS := Lib.hid hs
  have HM := Lib.hid hm
  have HSV := Lib.hid hS
  have HMV := Lib.hid hM
  have HNM := Lib.hid hnm
  have hnmi : (nm : Int) ≤ 256 := by omega
  have hni : (n : Int) ≤ 64 := by omega
  have hnm0 : (0 : Int) ≤ (nm : Int) := Int.natCast_nonneg _
  have hd := DB.new w A n cs B nm cm lp
  have hb0 := below_alloc w (dbox A n cs B nm cm lp)
  clear hs hm hS hM hnm
  unfold dbox at hd hb0
  go_enter Try.func12, Try.ntmps12
  go_upto_region 2 with fail
  have hb1 := below_alloc (w.alloc (.cells #[.slice A n cs, .slice B nm cm, .int .i64 lp] 24)) (.cells #[.slice none 0 0, .slice none 0 0, .int .i64 0] 24)
  have hR : BxAt ((w.alloc (.cells #[.slice A n cs, .slice B nm cm, .int .i64 lp] 24)).alloc (.cells #[.slice none 0 0, .slice none 0 0, .int .i64 0] 24)) (w.heap.size + 1) := by
    have := bx_new (w.alloc (.cells #[.slice A n cs, .slice B nm cm, .int .i64 lp] 24))
    rwa [show (w.alloc (.cells #[.slice A n cs, .slice B nm cm, .int .i64 lp] 24)).heap.size = w.heap.size + 1 by simp] at this
  have hD := hd.keep hb1
  have hb2 := below_step hb0 hb1
  have hsz0 : ((w.alloc (.cells #[.slice A n cs, .slice B nm cm, .int .i64 lp] 24)).alloc (.cells #[.slice none 0 0, .slice none 0 0, .int .i64 0] 24)).heap.size = w.heap.size + 2 := by simp
  clear hd hb0 hb1 hsz0
  generalize (w.alloc (.cells #[.slice A n cs, .slice B nm cm, .int .i64 lp] 24)).alloc (.cells #[.slice none 0 0, .slice none 0 0, .int .i64 0] 24) = w0 at *
  obtain ⟨d0, d1, d2, dlt⟩ := hD
  go_cut [4] (fun v wX => RfBox w0 nm lp v wX)
  case first =>
    go_region
    all_goals go_wp2_with fail
    all_goals go_meet
    all_goals first
      | exact rf_box1 w0 nm lp
      | exact rf_box2 w0 nm lp
  case rest =>
    obtain ⟨gD, gM, rfl, x0, x1, x2, xf, xlt, hA, hne, hgD, hgM, hbX⟩ := hcut
    have HR0 := Lib.hid hR
    have hw1 : w.heap.size + 1 < w0.heap.size := hR.1.2.2.2
    have HW1 := Lib.hid hw1
    clear hw1
    obtain ⟨BB, hBB⟩ : ∃ BB, wc.heap.size = BB := ⟨_, rfl⟩
    have hDB : gD < BB := by omega
    have hMB : gM < BB := by have := hA.lt; omega
    have HI0 : Hid (RfI w0 wc gD gM BB nm lp (.slice none 0 0) (negs s 0) (iv fun _ => 0)) := Lib.hid ⟨hbX, by omega, x0, x1, x2, xf, OI.nil _ _, hA⟩
    have HBX := Lib.hid (⟨d0, d1, d2⟩ : w0.cell? ⟨w.heap.size, 0, none⟩ = some (.slice A n cs) ∧ w0.cell? ⟨w.heap.size, 1, none⟩ = some (.slice B nm cm) ∧ w0.cell? ⟨w.heap.size, 2, none⟩ = some (.int .i64 lp))
    have HB2 := Lib.hid hb2
    clear x0 x1 x2 xf xlt hA d0 d1 d2 hR hbX hBB
    go_wp2
    go_loopw [5] (fun i wr => ∃ (k : Nat) (v : Value), k ≤ n ∧ i = .int .i64 k ∧ RfI w0 wr gD gM BB nm lp v (negs s k) (iv fun _ => 0)) (fun i _ => n - (intOf i).toNat)
    case atStart => exact ⟨0, _, by omega, rfl, HI0.out⟩
    case round =>
      obtain ⟨k, v, hk, rfl, hI⟩ := hrel
      have hk0 : (0 : Int) ≤ (k : Int) := Int.natCast_nonneg _
      have c0 := (hI.below.cell (p := ⟨w.heap.size, 0, none⟩) dlt).trans HBX.out.1
      have c1 := (hI.below.cell (p := ⟨w.heap.size, 1, none⟩) dlt).trans HBX.out.2.1
      by_cases hkn : k < n
      · have hk1 : (k : Int) < (n : Int) := by omega
        obtain ⟨b, off, rfl, hb, hc⟩ := HS.out.2 hn0
        have hcell := ((below_step HB2.out hI.below).cell (p := ⟨b, off + k, none⟩) hb).trans (hc k hkn)
        have hsv := HSV.out k hkn
        have hneg := negs_succ s k
        obtain ⟨x, hx⟩ : ∃ x, s.getD k 0 = x := ⟨_, rfl⟩
        rw [hx] at hcell hsv hneg
        have hx0 : -1 ≤ x := by omega
        have hx1 : x ≤ 1 := by omega
        have hwx : IntKind.i64.wrap (-x) = -x := IntWalk.i64_in _ (by omega)
        have q0 := hI.b0
        have qf := hI.bf 0
        have hwl := below_alloc wr (.cells #[.int .i64 (-x)] 3)
        have hgDw : gD < wr.heap.size := by have := hI.base; omega
        have q0a := (hwl.cell (p := ⟨gD, 0, none⟩) hgDw).trans q0
        have c0a := (hwl.cell (p := ⟨w.heap.size, 0, none⟩) (by have := hI.below.size; simp; omega)).trans c0
        have hcella := (hwl.cell (p := ⟨b, off + k, none⟩) (by have := hI.below.size; have := HB2.out.size; simp; omega)).trans hcell
        have hHI := Lib.hid hI
        have HNG := Lib.hid hneg
        have hbw := hI.base
        clear hx hc hsv hneg hI
        go_wp2
        go_region_law (refine step_append_row rfl (.tmp 22) (.tmp 29) 22 3 (.int .i64 0) 8 rfl Try.underlying22 Try.infoInt rfl (by omega) BB v (ints (negs s k)) rfl (by have := (hHI.out.own.alloc (.cells #[.int .i64 (-x)] 3)); unfold OI at this; unfold ownRow; rw [show (ints (negs s k)).length = (negs s k).length by simp [ints]]; exact OI.keep this (Below.refl _ _).drew) wr.heap.size (.int .i64 (-x)) rfl (by show (wr.alloc (.cells #[.int .i64 (-x)] 3)).cell? ⟨wr.heap.size, 0, none⟩ = some (.int .i64 (-x)); rw [World.cell?_alloc_at _ _ _ _ rfl]; rfl) rfl (by simp [ints, negs]; omega) (by show BB ≤ (wr.alloc (.cells #[.int .i64 (-x)] 3)).heap.size; simp; omega) ?_; rw [show (ints (negs s k)).length = k by simp [ints, negs]]; intro A5 c5 w5 ho5 hg5; have hb5 : Below wr.heap.size wr (wr.alloc (.cells #[.int .i64 (-x)] 3)).drew := (below_alloc wr _).drew; obtain ⟨m0, mf⟩ := hHI.out.mid hDB hb5 hg5; have HST := Lib.hid (hHI.out.step (v' := .slice A5 (k + 1) c5) (u := -x) hDB hMB hne hgD hb5 hg5 (by unfold ownRow at ho5; unfold OI; rw [show (ints (negs s k ++ [-x])) = ints (negs s k) ++ [.int .i64 (-x)] by simp [ints], show (negs s k ++ [-x]).length = (ints (negs s k) ++ [Value.int .i64 (-x)]).length by simp [ints]]; exact ho5)))
        all_goals
          go_wp2
          go_roundw
          case rel => exact ⟨k + 1, .slice A5 (k + 1) c5, by omega, by go_num, by rw [HNG.out]; exact HST.out⟩
          case measure => simp [intOf]; omega
      · obtain rfl : n = k := by omega
        obtain ⟨A1, c1', rfl⟩ : ∃ A1 c1', v = .slice A1 n c1' := by
          rcases OI.form hI.own with ⟨rfl, e⟩ | ⟨g1, cap, rfl, _, _⟩
          · exact ⟨none, 0, by have := congrArg List.length e; rw [negs_len] at this; simp at this; omega⟩
          · exact ⟨_, _, by rw [negs_len]⟩
        have HI1 : Hid (RfI w0 wr gD gM BB nm lp (.slice A1 n c1') (negs s n) (rfV pM 0)) := Lib.hid ⟨hI.below, hI.base, hI.b0, hI.b1, hI.b2, hI.bf, hI.own, hI.arr.congr fun i _ => by simp [rfV]⟩
        obtain ⟨wO, hwO⟩ : ∃ wO : World, wO = wr := ⟨_, rfl⟩
        subst hwO
        clear hI hkn hk
        go_wp2
        go_loopw [6] (fun i wr => ∃ j : Nat, j ≤ nm ∧ i = .int .i64 j ∧ RfI w0 wr gD gM BB nm lp (.slice A1 n c1') (negs s n) (rfV pM j)) (fun i _ => nm - (intOf i).toNat)
        case atStart => exact ⟨0, by omega, rfl, HI1.out⟩
        case round =>
          obtain ⟨j, hj, rfl, hI⟩ := hrel
          have hj0 : (0 : Int) ≤ (j : Int) := Int.natCast_nonneg _
          clear c0 c1
          have c1 := (hI.below.cell (p := ⟨w.heap.size, 1, none⟩) dlt).trans HBX.out.2.1
          by_cases hjn : j < nm
          · have hj1 : (j : Int) < (nm : Int) := by omega
            obtain ⟨b, off, rfl, hb, hc⟩ := HM.out.2 (by omega)
            obtain ⟨hm1, hm2⟩ := HMV.out j hjn
            have hcell := ((below_step HB2.out hI.below).cell (p := ⟨b, off + j, none⟩) hb).trans (hc j hjn)
            rw [hm1] at hcell
            have ht1 : rfN j < nm := by have := HNM.out; rw [this]; exact rfN_lt (by omega)
            have q1 := hI.b1
            have hct := hI.arr.cell (rfN j) ht1
            have hft := hI.arr.frozen (rfN j)
            have C1 := Lib.hid (to_any j wr.drew (by omega))
            have C2 := Lib.hid (to_any (pM j) wr.drew (by omega))
            have HP := Lib.hid (hI.put hMB hne hgM (rfN j) (.int .i64 ((rfN (pM j) : Nat) : Int)) (fun i _ => rfV_step pM j i))
            obtain ⟨t, ht⟩ : ∃ t, rfN j = t := ⟨_, rfl⟩
            obtain ⟨a, ha⟩ : ∃ a, pM j = a := ⟨_, rfl⟩
            obtain ⟨y, hy⟩ : ∃ y, rfN a = y := ⟨_, rfl⟩
            rw [ha] at hcell C2 HP hm2
            rw [hy] at C2 HP
            rw [ht] at ht1 hct hft C1 HP
            have t0 : (0 : Int) ≤ (t : Int) := Int.natCast_nonneg _
            have t1 : (t : Int) < (nm : Int) := by omega
            unfold rfV at hct
            have hsw := HB2.out.size
            have S1 : (wr.setCell ⟨gM, t, none⟩ (.int .i64 (y : Int))).cell? ⟨w.heap.size, 1, none⟩ = some (.slice (some ⟨b, off, none⟩) nm cm) := by rw [World.cell?_setCell_other _ _ _ _ (by first | (simp; done) | (simp; omega))]; exact c1
            have S2 : (wr.setCell ⟨gM, t, none⟩ (.int .i64 (y : Int))).cell? ⟨gD, 1, none⟩ = some (.slice (some ⟨gM, 0, none⟩) nm nm) := by rw [World.cell?_setCell_other _ _ _ _ (by first | (simp; done) | (simp; omega))]; exact q1
            have S3 : (wr.setCell ⟨gM, t, none⟩ (.int .i64 (y : Int))).cell? ⟨b, off + j, none⟩ = some (.int .i64 (a : Int)) := by rw [World.cell?_setCell_other _ _ _ _ (by first | (simp; done) | (simp; omega))]; exact hcell
            clear hc hm1 ht ha hy hI
            go_wp2
            go_region_held3 (fun w' => w'.cell? ⟨w.heap.size, 1, none⟩ = some (.slice (some ⟨b, off, none⟩) nm cm) ∧ w'.cell? ⟨gD, 1, none⟩ = some (.slice (some ⟨gM, 0, none⟩) nm nm) ∧ w'.cell? ⟨b, off + j, none⟩ = some (.int .i64 (a : Int))) (first | exact ⟨S1, S2, S3⟩ | go_keep)
              (first
                | (go_at_call 25; ((with_reducible refine C1.out.mono ?_); rintro e w' ⟨rfl, rfl⟩))
                | (go_at_call 25; ((with_reducible refine C2.out.mono ?_); rintro e w' ⟨rfl, rfl⟩)))
            go_wp2
            go_roundw
            case rel => exact ⟨j + 1, by omega, by go_num, HP.out⟩
            case measure => simp [intOf]; omega
          · obtain rfl : nm = j := by omega
            have hrx := HR0.out.kp hI.below
            obtain ⟨⟨q0, q1, q2, qlt⟩, qf⟩ := hrx
            have f0 := qf 0
            have f1 := qf 1
            have f2 := qf 2
            have y0 := hI.b0
            have y1 := hI.b1
            have y2 := hI.b2
            obtain ⟨k0, k1, k2⟩ := set3w_cells wr (w.heap.size + 1) (.slice A1 n c1') (.slice (some ⟨gM, 0, none⟩) nm nm) (.int .i64 lp) q0 q1 q2
            have HF : Hid (∃ A' c' B', (Ending.returned (dval A1 n c1' (some ⟨gM, 0, none⟩) nm nm lp)) = .returned (dval A' n c' B' nm nm lp) ∧ RI (set3w wr (w.heap.size + 1) (.slice A1 n c1') (.slice (some ⟨gM, 0, none⟩) nm nm) (.int .i64 lp)) A' n (negs s n) ∧ RI (set3w wr (w.heap.size + 1) (.slice A1 n c1') (.slice (some ⟨gM, 0, none⟩) nm nm) (.int .i64 lp)) B' nm (rfM pM nm) ∧ Below w.heap.size w (set3w wr (w.heap.size + 1) (.slice A1 n c1') (.slice (some ⟨gM, 0, none⟩) nm nm) (.int .i64 lp))) := Lib.hid (by
              have hsw := HB2.out.size
              have hw1 := HW1.out
              have hr2 : RI wr (some ⟨gM, 0, none⟩) nm (rfM pM nm) := ⟨by simp [rfM], fun _ => ⟨gM, 0, rfl, hI.arr.lt, fun i hi => by
                have ht1 : rfN i < nm := by have := HNM.out; rw [this]; exact rfN_lt (by omega)
                rw [Nat.zero_add, hI.arr.cell i hi]
                simp [rfV, rfM, List.getD, hi, ht1]⟩⟩
              refine ⟨_, _, _, rfl, (OI.ri hI.own).set3w (fun b hb ⟨o, e⟩ => ?_) _ _ _, hr2.set3w (fun b hb ⟨o, e⟩ => ?_) _ _ _, set3w_below (below_step HB2.out hI.below) (by omega) _ _ _⟩
              · subst e
                have := (World.ownsRow.lt hI.own b rfl).1
                omega
              · injection e with e; injection e with e1; omega)
            clear hI
            go_wp2
            exact bodyPost_ret (v := dval A1 n c1' (some ⟨gM, 0, none⟩) nm nm lp) (by simp [results, Try.results12, go_sem, k0, k1, k2]) rfl HF.out

end Go.Proofs.Ytebliaclleplgaa

/- Plain: an isomorphism to a diagram is one of the reflections. -/
namespace Go.Proofs.Ytebliaclleplgaa

theorem rfN_tau (f : Nat → Nat) (h : Nat) : rfN (4 * f (h / 4) + h % 4) = 4 * f (rfN h / 4) + rfN h % 4 := by
  have h1 : rfN h / 4 = h / 4 := by unfold rfN; omega
  rw [h1]; unfold rfN; omega
theorem IsoF.refl {pA pA' pB : Nat → Nat} {sA sA' sB : Nat → Int} {n : Nat} {f : Nat → Nat} (F : IsoF pA' pB sA' sB n f) (hlt : ∀ x, x < 4 * n → pA x < 4 * n) (hc : ∀ x, x < 4 * n → pA' (rfN x) = rfN (pA x)) (hs : ∀ i, i < n → sA i = -(sA' i)) :
    IsoF pA (fun h => rfN (pB (rfN h))) sA (fun i => -(sB i)) n f := by
  have hd : ∀ x, rfN x / 4 = x / 4 := fun x => by unfold rfN; omega
  refine ⟨F.pos, hlt, fun h hh => rfN_lt (F.b _ (rfN_lt hh)), F.fr, fun h hh => ?_, fun i hi => ?_, fun S S0 hS i hi => ?_⟩
  · show rfN (pB (rfN (4 * f (h / 4) + h % 4))) = _
    rw [rfN_tau f h, F.m _ (rfN_lt hh), hc h hh, ← rfN_tau f (pA h), rfN_rfN]
  · show sA i = -(sB (f i))
    rw [hs i hi, F.s i hi]
  · refine F.conn S S0 (fun h hh hSh => ?_) i hi
    have := hS (rfN h) (rfN_lt hh) (by rw [hd]; exact hSh)
    have e := hc (rfN h) (rfN_lt hh)
    rw [rfN_rfN] at e
    rw [e, hd]; exact this

end Go.Proofs.Ytebliaclleplgaa

/- Walk: the code of a strand. -/
namespace Go.Proofs.Ytebliaclleplgaa
open Go.RowKit

set_option maxHeartbeats 3200000 in
set_option maxRecDepth 100000 in
theorem codeOf_any (A : Option Addr) (n c : Nat) (st : List Int) (w : World) (hA : RI w A (2 * n) st) (hn : n ≤ 64) (hpos : 0 < n) (hst : ∀ j, j < 2 * n → 0 ≤ st.getD j 0 ∧ cr st j < n) :
    Calls Try.prog 21 #[.slice A (2 * n) c] w fun e w' => e = .returned (.slice (some ⟨w.heap.size, 0, none⟩) n n) ∧ Arr w' w.heap.size 3 n (zv fun i => evK st n (cr st (2 * i))) ∧ Below w.heap.size w w' := by
  obtain ⟨b, off, rfl, hb, hc⟩ := hA.2 (by omega)
  have HST := Lib.hid hst
  have HC := Lib.hid hc
  clear hst hc hA
  have hn1 : (n : Int) ≤ 64 := by omega
  have hn0 : (0 : Int) < (n : Int) := by omega
  have hmk := fun W => make_one (P := Try.prog) Try.underlying22 Try.infoInt rfl n (by omega) (by omega) W
  obtain ⟨L, hL⟩ : ∃ L, 2 * n = L := ⟨_, rfl⟩
  rw [hL] at HST HC ⊢
  have hLn : (L : Int) / 2 = (n : Int) := by omega
  have hLw : IntKind.i64.wrap (n : Int) = (n : Int) := IntWalk.i64_in _ (by omega)
  have hL0 : (0 : Int) ≤ (L : Int) := Int.natCast_nonneg _
  have hL1 : (L : Int) ≤ 128 := by omega
  have HL := Lib.hid hL
  clear hL
  go_enter Try.func21, Try.ntmps21
  go_wp2
  clear hLn hLw
  have hsz : w.heap.size + 1 = (w.alloc (.cells (cellsN n fun _ => .int .i64 0) 3)).heap.size := by simp
  have hC0 : Arr ((w.alloc (.cells (cellsN n fun _ => .int .i64 0) 3)).alloc (.cells (cellsN n fun _ => .int .i64 0) 3)) w.heap.size 3 n (zv fun _ => 0) := (Arr.new w _ _ _).alloc _
  have hE0 : Arr ((w.alloc (.cells (cellsN n fun _ => .int .i64 0) 3)).alloc (.cells (cellsN n fun _ => .int .i64 0) 3)) (w.heap.size + 1) 3 n (zv (evK st 0)) := by rw [hsz]; exact Arr.new _ _ _ _
  have hb0 : Below w.heap.size w ((w.alloc (.cells (cellsN n fun _ => .int .i64 0) 3)).alloc (.cells (cellsN n fun _ => .int .i64 0) 3)) := below_step (below_alloc w _) (below_alloc _ _)
  obtain ⟨gE, hgE⟩ : ∃ gE, w.heap.size + 1 = gE := ⟨_, rfl⟩
  have hge : w.heap.size < gE := by omega
  have hgne : ¬ gE = w.heap.size := by omega
  rw [hgE] at hE0 ⊢
  clear hgE hsz hmk
  generalize (w.alloc (.cells (cellsN n fun _ => .int .i64 0) 3)).alloc (.cells (cellsN n fun _ => .int .i64 0) 3) = wA at hC0 hE0 hb0
  go_loopw [5] (fun i wr => ∃ k : Nat, k ≤ n ∧ i = .int .i64 (2 * (k : Int) + 1) ∧ Below w.heap.size w wr ∧ Arr wr w.heap.size 3 n (zv fun _ => 0) ∧ Arr wr gE 3 n (zv (evK st k))) (fun i _ => (2 * (n : Int) + 1 - intOf i).toNat)
  case atStart => exact ⟨0, by omega, rfl, hb0, hC0, hE0⟩
  case round =>
    obtain ⟨k, hk, rfl, hbr, hCr, hEr⟩ := hrel
    by_cases hlt : k < n
    · obtain ⟨hx0, hx1⟩ := HST.out (2 * k + 1) (by have := HL.out; omega)
      have hcell : wr.cell? ⟨b, off + (2 * k + 1), none⟩ = some (.int .i64 (st.getD (2 * k + 1) 0)) := (hbr.cell (p := ⟨b, off + (2 * k + 1), none⟩) hb).trans (HC.out (2 * k + 1) (by have := HL.out; omega))
      have hev : evK st (k + 1) = fun c => if c = cr st (2 * k + 1) then vlO st k else evK st k c := rfl
      unfold vlO at hev
      have hcr : cr st (2 * k + 1) = (st.getD (2 * k + 1) 0).toNat / 4 := rfl
      obtain ⟨x, hx⟩ : ∃ x : Nat, st.getD (2 * k + 1) 0 = (x : Int) := ⟨(st.getD (2 * k + 1) 0).toNat, by omega⟩
      rw [hx] at hcr hcell hev
      rw [Int.toNat_natCast] at hcr hev
      rw [hcr] at hev hx1
      have HEV := Lib.hid hev
      have CO := fun W => Lib.hid (over_any x W (by omega))
      have hi1 : (2 * (k : Int) + 1).toNat = 2 * k + 1 := by omega
      have hxw : IntKind.i64.wrap ((x : Int) / 4) = (x : Int) / 4 := IntWalk.i64_in _ (by omega)
      have hk0 : (0 : Int) ≤ (k : Int) := Int.natCast_nonneg _
      have hk1 : (k : Int) < (n : Int) := by omega
      have hkL : 2 * (k : Int) + 1 < (L : Int) := by have := HL.out; omega
      have hxi0 : (0 : Int) ≤ (x : Int) := Int.natCast_nonneg _
      have hxi1 : (x : Int) / 4 < (n : Int) := by omega
      have hxi2 : (0 : Int) ≤ (x : Int) / 4 := by omega
      have hxi3 : (x : Int) ≤ 1000 := by omega
      have f1 := hEr.frozen (x / 4)
      have c1 := hEr.cell (x / 4) hx1
      have hb1 : Below w.heap.size w (wr.setCell ⟨gE, x / 4, none⟩ (.int .i64 (2 * (k : Int) + 1 + 1))) := below_set hbr (by omega) _
      have hcell2 : (wr.setCell ⟨gE, x / 4, none⟩ (.int .i64 (2 * (k : Int) + 1 + 1))).cell? ⟨b, off + (2 * k + 1), none⟩ = some (.int .i64 (x : Int)) := (hb1.cell (p := ⟨b, off + (2 * k + 1), none⟩) hb).trans (((hbr.cell (p := ⟨b, off + (2 * k + 1), none⟩) hb).symm).trans hcell)
      have hC2 := hCr.far (p := ⟨gE, x / 4, none⟩) (by show w.heap.size ≠ gE; omega) (.int .i64 (2 * (k : Int) + 1 + 1))
      have hE2 := hEr.setz (x / 4) (2 * (k : Int) + 1 + 1)
      have f2 := hE2.frozen (x / 4)
      have c2 := hE2.cell (x / 4) hx1
      have hB1 := Lib.hid hb1
      have HC2 := Lib.hid hC2
      have HE2 := Lib.hid hE2
      have HX := Lib.hid hx
      clear hx hev hcr hC0 hE0 hb0 hCr hEr hC2 hE2 hb1 hx0
      by_cases hp : x % 2 = 1
      · have hp' : ((x : Int) % 2 == 1) = true := by simp; omega
        rw [hp'] at CO
        have hEn : Arr ((wr.setCell ⟨gE, x / 4, none⟩ (.int .i64 (2 * (k : Int) + 1 + 1))).setCell ⟨gE, x / 4, none⟩ (.int .i64 (-(2 * (k : Int) + 1) - 1))) gE 3 n (zv (evK st (k + 1))) := by
          refine (HE2.out.setz (x / 4) (-(2 * (k : Int) + 1) - 1)).congr fun i _ => ?_
          rw [HEV.out]
          simp only [zv, if_pos hp]
          split <;> (congr 1; try omega)
        have HEN := Lib.hid hEn
        have hCn := HC2.out.far (p := ⟨gE, x / 4, none⟩) (by show w.heap.size ≠ gE; omega) (.int .i64 (-(2 * (k : Int) + 1) - 1))
        have HCN := Lib.hid hCn
        clear hEn hCn hp hp'
        go_wp2_with ((with_reducible refine (CO _).out.mono ?_); rintro e w1 ⟨rfl, rfl⟩)
        go_roundw
        case rel => exact ⟨k + 1, by omega, by go_num, below_set hB1.out (by omega) _, HCN.out, HEN.out⟩
        case measure => simp [intOf]; omega
      · have hp' : ((x : Int) % 2 == 1) = false := by simp; omega
        rw [hp'] at CO
        have hEn : Arr (wr.setCell ⟨gE, x / 4, none⟩ (.int .i64 (2 * (k : Int) + 1 + 1))) gE 3 n (zv (evK st (k + 1))) := by
          refine HE2.out.congr fun i _ => ?_
          rw [HEV.out]
          simp only [zv, if_neg hp]
          split <;> (congr 1; try omega)
        have HEN := Lib.hid hEn
        clear hEn hp hp'
        go_wp2_with ((with_reducible refine (CO _).out.mono ?_); rintro e w1 ⟨rfl, rfl⟩)
        go_roundw
        case rel => exact ⟨k + 1, by omega, by go_num, hB1.out, HC2.out, HEN.out⟩
        case measure => simp [intOf]; omega
    · obtain rfl : k = n := by omega
      have hkL : ¬ 2 * (k : Int) + 1 < (L : Int) := by have := HL.out; omega
      obtain ⟨wB, hwB⟩ : ∃ wB : World, wB = wr := ⟨_, rfl⟩
      subst hwB
      have hCs : Arr wB w.heap.size 3 k (zv fun i => if i < 0 then evK st k (cr st (2 * i)) else 0) := hCr.congr fun i _ => by simp [zv]
      clear hCr hlt hk hC0 hE0 hb0
      go_wp2
      go_loopw [6, 46] (fun _ i wr => ∃ j : Nat, j ≤ k ∧ i = .int .i64 j ∧ Below w.heap.size w wr ∧ Arr wr gE 3 k (zv (evK st k)) ∧ Arr wr w.heap.size 3 k (zv fun i => if i < j then evK st k (cr st (2 * i)) else 0)) (fun _ i _ => k - (intOf i).toNat)
      case atStart => exact ⟨0, by omega, rfl, hbr, hEr, hCs⟩
      case round =>
        obtain ⟨j, hj, rfl, hbj, hEj, hCj⟩ := hrel
        by_cases hjl : j < k
        · obtain ⟨hx0, hx1⟩ := HST.out (2 * j) (by have := HL.out; omega)
          have hcell : wr.cell? ⟨b, off + 2 * j, none⟩ = some (.int .i64 (st.getD (2 * j) 0)) := (hbj.cell (p := ⟨b, off + 2 * j, none⟩) hb).trans (HC.out (2 * j) (by have := HL.out; omega))
          have hcr : cr st (2 * j) = (st.getD (2 * j) 0).toNat / 4 := rfl
          obtain ⟨x, hx⟩ : ∃ x : Nat, st.getD (2 * j) 0 = (x : Int) := ⟨(st.getD (2 * j) 0).toNat, by omega⟩
          rw [hx] at hcr hcell
          rw [Int.toNat_natCast] at hcr
          rw [hcr] at hx1
          have cE := hEj.cell (x / 4) hx1
          have cE' : wr.cell? ⟨gE, x / 4, none⟩ = some (.int .i64 (evK st k (x / 4))) := cE
          obtain ⟨y, hy⟩ : ∃ y, evK st k (x / 4) = y := ⟨_, rfl⟩
          rw [hy] at cE'
          have hCn : Arr (wr.setCell ⟨w.heap.size, j, none⟩ (.int .i64 y)) w.heap.size 3 k (zv fun i => if i < j + 1 then evK st k (cr st (2 * i)) else 0) := by
            refine (hCj.setz j y).congr fun i _ => ?_
            simp only [zv]
            by_cases e : i = j
            · subst e; rw [if_pos rfl, if_pos (by omega), hcr, hy]
            · rw [if_neg e]
              by_cases e2 : i < j
              · rw [if_pos e2, if_pos (by omega)]
              · rw [if_neg e2, if_neg (by omega)]
          have hEn := hEj.far (p := ⟨w.heap.size, j, none⟩) (by show gE ≠ w.heap.size; omega) (.int .i64 y)
          have f1 := hCj.frozen j
          have c1 := hCj.cell j hjl
          have HCN := Lib.hid hCn
          have HEN := Lib.hid hEn
          have hi1 : (2 * (j : Int)).toNat = 2 * j := by omega
          have hxw : IntKind.i64.wrap ((x : Int) / 4) = (x : Int) / 4 := IntWalk.i64_in _ (by omega)
          have hk0 : (0 : Int) ≤ (j : Int) := Int.natCast_nonneg _
          have hk1 : (j : Int) < (k : Int) := by omega
          have hjL : 2 * (j : Int) < (L : Int) := by have := HL.out; omega
          have hxi0 : (0 : Int) ≤ (x : Int) := Int.natCast_nonneg _
          have hxi1 : (x : Int) / 4 < (k : Int) := by omega
          have hxi2 : (0 : Int) ≤ (x : Int) / 4 := by omega
          have hxi3 : (x : Int) ≤ 1000 := by omega
          clear hCn hEn hx hcr hy cE hCj hEj hCs hx0 hEr hbr
          go_wp2
          go_roundw
          case rel => exact ⟨j + 1, by omega, by go_num, below_set hbj (Nat.le_refl _) _, HEN.out, HCN.out⟩
          case measure => simp [intOf]; omega
        · obtain rfl : j = k := by omega
          have hfin : Arr wr w.heap.size 3 j (zv fun i => evK st j (cr st (2 * i))) := hCj.congr fun i hi => by simp only [zv, if_pos hi]
          have HF := Lib.hid hfin
          clear hjl hj hCj hCs hfin
          go_wp2
          go_ret
          exact ⟨rfl, HF.out, hbj⟩

end Go.Proofs.Ytebliaclleplgaa

/- Walk: Strands. -/
namespace Go.Proofs.Ytebliaclleplgaa
open Go.RowKit

theorem next59 (A B : Option Addr) (ns cs nm cm gd : Nat) (lp : Int) (mate : List Int) (m : Nat → Nat) (w : World) (hd : DB w gd A ns cs B nm cm lp) (hm : RI w B nm mate) (hmm : Mates mate nm m) (hnm : nm ≤ 256) :
    Next w 40 gd (fs m) nm := fun W x hW hx => by
  have hb0 := hd.keep hW
  obtain ⟨d0, d1, d2, dlt⟩ := hb0
  have C := Lib.hid (nextstrand_nat A B ns cs nm cm lp mate m x W (hm.keep hW) hx hmm hnm _ rfl)
  clear hd hm hmm hW
  go_enter Try.func40, Try.ntmps40
  go_wp2_with (go_at_call 41; ((with_reducible refine C.out.mono ?_); rintro e w1 ⟨rfl, hb1⟩))
  go_ret
  exact ⟨rfl, hb1⟩
theorem asks58 (A B : Option Addr) (ns cs nm cm gd : Nat) (lp : Int) (signs : List Int) (w : World) (hd : DB w gd A ns cs B nm cm lp) (hs : RI w A ns signs) (hnm : nm = 4 * ns) (hns : ns ≤ 64) :
    Asks w 37 #[.pointer (some ⟨gd, 0, none⟩)] (outB signs) nm := fun W x hW hx => by
  show Calls Try.prog 37 #[.int .i64 (x : Nat), .pointer (some ⟨gd, 0, none⟩)] W _
  have hb0 := hd.keep hW
  obtain ⟨d0, d1, d2, dlt⟩ := hb0
  have C := Lib.hid (outgoing_any A B ns cs nm cm lp signs x W (hs.keep hW) (by omega) (by omega))
  clear hd hs hW hnm
  go_enter Try.func37, Try.ntmps37
  go_wp2_with (go_at_call 38; ((with_reducible refine C.out.mono ?_); rintro e w1 ⟨rfl, hb1⟩))
  go_ret
  exact ⟨rfl, hb1⟩


set_option maxHeartbeats 1600000 in
theorem strands_any (A B : Option Addr) (ns cs nm cm : Nat) (lp : Int) (signs mate : List Int) (w : World) (h : DV w A ns B nm signs mate) :
    Calls Try.prog 22 #[dval A ns cs B nm cm lp] w (CycsPost w (strandsM signs mate lp)) := by
  have hd := DB.new w A ns cs B nm cm lp
  obtain ⟨d0, d1, d2, dlt⟩ := hd
  have hb0 := below_alloc w (dbox A ns cs B nm cm lp)
  have hls := h.hs.1
  have hlm := h.hm.1
  cases hv : validB signs mate lp with
  | false =>
    have e : strandsM signs mate lp = [] := by simp [strandsM, hv]
    rw [e]
    have CV := Lib.hid ((h.keep hb0).valid cs cm lp false hv)
    clear e hv hls hlm
    go_enter Try.func22, Try.ntmps22
    go_wp2_with (go_at_call 19; ((with_reducible refine CV.out.mono ?_); rintro e w1 ⟨rfl, hb1⟩))
    go_ret
    exact ⟨_, rfl, OO.nil _ _, below_step hb0 hb1⟩
  | true =>
    have e : strandsM signs mate lp = cycL (fs (matesOf mate)) nm (outB signs) nm := by simp [strandsM, hv, hlm]
    rw [e]
    have CV := Lib.hid ((h.keep hb0).valid cs cm lp true hv)
    obtain ⟨v1, v2, v3, v4⟩ := validB_out hv
    rw [hls, hlm] at v1
    obtain ⟨l1, l2, l3, l4⟩ := limB_out v1
    have HM := Lib.hid (matesOf_mates v3 hlm)
    have HI := Lib.hid (matesOf_invol v3 hlm)
    have HL := Lib.hid l2
    have HD := Lib.hid (DB.new w A ns cs B nm cm lp)
    have CCf : ∀ w1 : World, Below (w.alloc (dbox A ns cs B nm cm lp)).heap.size (w.alloc (dbox A ns cs B nm cm lp)) w1 →
        Hid (Calls Try.prog 39 #[.int .i64 (nm : Nat), .func (.func 37) #[] #[.pointer (some ⟨w.heap.size, 0, none⟩)], .func (.func 40) #[] #[.pointer (some ⟨w.heap.size, 0, none⟩)]] w1 (CycsPost w1 (cycL (fs (matesOf mate)) nm (outB signs) nm))) := fun w1 hb1 =>
      cycles_any 40 37 w.heap.size nm #[.pointer (some ⟨w.heap.size, 0, none⟩)] (fs (matesOf mate)) (outB signs) w1 enters59 enters58
        (next59 A B ns cs nm cm w.heap.size lp mate (matesOf mate) w1 (HD.out.keep hb1) (h.hm.keep (below_step hb0 hb1)) HM.out (by have := HL.out; omega)) (asks58 A B ns cs nm cm w.heap.size lp signs w1 (HD.out.keep hb1) (h.hs.keep (below_step hb0 hb1)) HL.out l1) (by have := HI.out; rw [HL.out] at this ⊢; exact this.perm 2) (by have := HL.out; omega)
    clear e hv hls hlm v1 v2 v3 v4 l2
    go_enter Try.func22, Try.ntmps22
    have hmf : ∀ (fn : Fn) (first cap : Array Value) (w : World), (Instr.makeFunc fn first cap).run Try.prog w = .ok (.func fn first cap) w := fun _ _ _ _ => rfl
    go_wp2_with (first
      | (go_at_call 19; ((with_reducible refine CV.out.mono ?_); rintro e w1 ⟨rfl, hb1⟩; have d0' := (hb1.cell (p := ⟨w.heap.size, 0, none⟩) dlt).trans d0; have d1' := (hb1.cell (p := ⟨w.heap.size, 1, none⟩) dlt).trans d1; have d2' := (hb1.cell (p := ⟨w.heap.size, 2, none⟩) dlt).trans d2))
      | (go_at_call 39; ((with_reducible refine (CCf _ hb1).out.mono ?_); rintro e w2 ⟨v, rfl, hov, hb2⟩)))
    go_ret
    have hb01 := below_step hb0 hb1
    exact ⟨_, rfl, hov.mono hb01.size, below_step hb01 hb2⟩

end Go.Proofs.Ytebliaclleplgaa

/- Walk: Components. -/
namespace Go.Proofs.Ytebliaclleplgaa
open Go.RowKit

set_option maxHeartbeats 1600000 in
theorem components_any (A B : Option Addr) (ns cs nm cm : Nat) (lp : Int) (signs mate : List Int) (w : World) (h : DV w A ns B nm signs mate) :
    Calls Try.prog 20 #[dval A ns cs B nm cm lp] w fun e w' => e = .returned (.int .i64 (compM signs mate lp)) ∧ Below w.heap.size w w' := by
  have hd := DB.new w A ns cs B nm cm lp
  obtain ⟨d0, d1, d2, dlt⟩ := hd
  have hb0 := below_alloc w (dbox A ns cs B nm cm lp)
  have hls := h.hs.1
  have hlm := h.hm.1
  cases hv : validB signs mate lp with
  | false =>
    have e : compM signs mate lp = 0 := by simp [compM, hv]
    rw [e]
    have CV := Lib.hid ((h.keep hb0).valid cs cm lp false hv)
    clear e hv hls hlm
    go_enter Try.func20, Try.ntmps20
    go_wp2_with (go_at_call 19; ((with_reducible refine CV.out.mono ?_); rintro e w1 ⟨rfl, hb1⟩))
    go_ret
    exact ⟨rfl, below_step hb0 hb1⟩
  | true =>
    have CV := Lib.hid ((h.keep hb0).valid cs cm lp true hv)
    obtain ⟨v1, v2, v3, v4⟩ := validB_out hv
    rw [hls, hlm] at v1
    obtain ⟨l1, l2, l3, l4⟩ := limB_out v1
    have hsl := strandsM_le (signs := signs) (mate := mate) (lp := lp)
    rw [compM_add hv]
    have H := Lib.hid h
    have CS : ∀ W : World, Below (w.alloc (dbox A ns cs B nm cm lp)).heap.size (w.alloc (dbox A ns cs B nm cm lp)) W → Hid (Calls Try.prog 22 #[dval A ns cs B nm cm lp] W (CycsPost W (strandsM signs mate lp))) := fun W hb =>
      strands_any A B ns cs nm cm lp signs mate W (H.out.keep (below_step hb0 hb))
    generalize strandsM signs mate lp = xss at *
    have hwr : IntKind.i64.wrap ((xss.length : Int) + lp) = (xss.length : Int) + lp := IntWalk.i64_in _ (by omega)
    clear hv hls hlm v1 v2 v3 v4 l1 l2 h
    go_enter Try.func20, Try.ntmps20
    go_upto_region 3 with (go_at_call 19; ((with_reducible refine CV.out.mono ?_); rintro e w1 ⟨rfl, hb1⟩))
    have c0 := (hb1.cell (p := ⟨w.heap.size, 0, none⟩) dlt).trans d0
    have c1 := (hb1.cell (p := ⟨w.heap.size, 1, none⟩) dlt).trans d1
    have c2 := (hb1.cell (p := ⟨w.heap.size, 2, none⟩) dlt).trans d2
    have wlt := Nat.lt_of_lt_of_le dlt hb1.size
    have hbD : Below w1.heap.size w1 w1.drew := (Below.refl _ _).drew
    go_region_held3 (fun w' => w'.cell? ⟨w.heap.size, 0, none⟩ = some (.slice A ns cs) ∧ w'.cell? ⟨w.heap.size, 1, none⟩ = some (.slice B nm cm) ∧ w'.cell? ⟨w.heap.size, 2, none⟩ = some (.int .i64 lp))
      (first
        | go_keep
        | exact ⟨(hbB.cell (p := ⟨w.heap.size, 0, none⟩) wlt).trans c0, (hbB.cell (p := ⟨w.heap.size, 1, none⟩) wlt).trans c1, (hbB.cell (p := ⟨w.heap.size, 2, none⟩) wlt).trans c2⟩)
      (first
        | (go_at_call 22; ((with_reducible refine (CS _ (below_step hb1 hbD)).out.mono ?_); rintro e w2 ⟨v, rfl, hov, hb2⟩; have hbB := below_step hbD hb2; obtain ⟨Av, cv, rfl⟩ := hov.form)))
    go_wp2
    go_ret
    exact ⟨rfl, below_step hb0 (below_step hb1 hbB)⟩

end Go.Proofs.Ytebliaclleplgaa

/- Walk: dowker.Of. -/
namespace Go.Proofs.Ytebliaclleplgaa
open Go.RowKit

/-- The error and the code of a diagram. -/
def ofE (s m : List Int) (lp : Int) : Int := if validB s m lp = false then 1 else if s.length = 0 then 8 else if 1 < compM s m lp then 16 else 0
def ofL (s m : List Int) (lp : Int) : List Int := if validB s m lp = false then [] else if s.length = 0 then [] else if 1 < compM s m lp then [] else cdF ((strandsM s m lp).getD 0 []) s.length
def DOfPost (s m : List Int) (lp : Int) (w : World) (e : Ending) (w' : World) : Prop :=
  ∃ A n c, e = .returned (.tuple #[.slice A n c, .int .i64 (ofE s m lp)]) ∧ RI w' A n (ofL s m lp) ∧ Below w.heap.size w w'

set_option maxHeartbeats 3200000 in
set_option maxRecDepth 100000 in
theorem dof_any (A B : Option Addr) (ns cs nm cm : Nat) (lp : Int) (s m : List Int) (w : World) (h : DV w A ns B nm s m) :
    Calls Try.prog 7 #[dval A ns cs B nm cm lp] w (DOfPost s m lp w) := by
  have hd := DB.new w A ns cs B nm cm lp
  obtain ⟨d0, d1, d2, dlt⟩ := hd
  have hb0 := below_alloc w (dbox A ns cs B nm cm lp)
  have hls := h.hs.1
  have HDV := Lib.hid (h.keep hb0)
  cases hv : validB s m lp with
  | false =>
    have CV := Lib.hid (HDV.out.valid cs cm lp false hv)
    have HE : Hid (ofE s m lp = 1 ∧ ofL s m lp = []) := Lib.hid (by simp [ofE, ofL, hv])
    clear h hv hls
    go_enter Try.func7, Try.ntmps7
    go_wp2_with (go_at_call 19; ((with_reducible refine CV.out.mono ?_); rintro e w1 ⟨rfl, hb1⟩))
    go_ret2
    obtain ⟨z1, z2⟩ := HE.out
    exact ⟨none, 0, 0, by rw [z1]; rfl, by rw [z2]; exact RI.nil _ _, below_step hb0 hb1⟩
  | true =>
    have CV := Lib.hid (HDV.out.valid cs cm lp true hv)
    by_cases h0 : ns = 0
    · have HE : Hid (ofE s m lp = 8 ∧ ofL s m lp = []) := Lib.hid (by simp [ofE, ofL, hv, hls, h0])
      have h0' : (ns : Int) = 0 := by omega
      clear h hv hls h0
      go_enter Try.func7, Try.ntmps7
      go_wp2_with (go_at_call 19; ((with_reducible refine CV.out.mono ?_); rintro e w1 ⟨rfl, hb1⟩; have e0 := (hb1.cell (p := ⟨w.heap.size, 0, none⟩) dlt).trans d0))
      go_ret2
      obtain ⟨z1, z2⟩ := HE.out
      exact ⟨none, 0, 0, by rw [z1]; rfl, by rw [z2]; exact RI.nil _ _, below_step hb0 hb1⟩
    · have h0' : ((ns : Int) == 0) = false := by simp; omega
      have CC : ∀ W, Below (w.alloc (dbox A ns cs B nm cm lp)).heap.size (w.alloc (dbox A ns cs B nm cm lp)) W → Hid (Calls Try.prog 20 #[dval A ns cs B nm cm lp] W fun e w' => e = .returned (.int .i64 (compM s m lp)) ∧ Below W.heap.size W w') := fun W hb =>
        components_any A B ns cs nm cm lp s m W (HDV.out.keep hb)
      by_cases hc : 1 < compM s m lp
      · have HE : Hid (ofE s m lp = 16 ∧ ofL s m lp = []) := Lib.hid (by simp [ofE, ofL, hv, hls, h0, hc])
        obtain ⟨cN, hcN⟩ : ∃ cN, compM s m lp = cN := ⟨_, rfl⟩
        simp only [hcN] at CC
        rw [hcN] at hc
        clear h hv hls h0 hcN
        go_enter Try.func7, Try.ntmps7
        go_wp2_with (first
          | (go_at_call 19; ((with_reducible refine CV.out.mono ?_); rintro e w1 ⟨rfl, hb1⟩; have e0 := (hb1.cell (p := ⟨w.heap.size, 0, none⟩) dlt).trans d0; have e1 := (hb1.cell (p := ⟨w.heap.size, 1, none⟩) dlt).trans d1; have e2 := (hb1.cell (p := ⟨w.heap.size, 2, none⟩) dlt).trans d2))
          | (go_at_call 20; ((with_reducible refine (CC _ hb1).out.mono ?_); rintro e w2 ⟨rfl, hb2⟩)))
        go_ret2
        obtain ⟨z1, z2⟩ := HE.out
        exact ⟨none, 0, 0, by rw [z1]; rfl, by rw [z2]; exact RI.nil _ _, below_step (below_step hb0 hb1) hb2⟩
      · obtain ⟨hlp0, st, hst, hk⟩ := knot_one hv (by omega) (by omega)
        clear hlp0
        have HE : Hid (ofE s m lp = 0 ∧ ofL s m lp = cdF st ns) := Lib.hid (by simp [ofE, ofL, hv, hls, h0, hc, hst])
        have CS : ∀ W, Below (w.alloc (dbox A ns cs B nm cm lp)).heap.size (w.alloc (dbox A ns cs B nm cm lp)) W → Hid (Calls Try.prog 22 #[dval A ns cs B nm cm lp] W (CycsPost W [st])) := fun W hb => by
          have := strands_any A B ns cs nm cm lp s m W (HDV.out.keep hb)
          rw [hst] at this; exact this
        have hn64 : ns ≤ 64 := by have := (bk_facts hv).le; omega
        rw [hls] at hk
        have CO : ∀ (W : World) (A' : Option Addr) (c' : Nat), RI W A' (2 * ns) st → Hid (Calls Try.prog 21 #[.slice A' (2 * ns) c'] W fun e w' => e = .returned (.slice (some ⟨W.heap.size, 0, none⟩) ns ns) ∧ Arr w' W.heap.size 3 ns (zv fun i => evK st ns (cr st (2 * i))) ∧ Below W.heap.size W w') := fun W A' c' hr =>
          codeOf_any A' ns c' st W hr hn64 (by omega) hk.rg
        have HKL := Lib.hid hk.len
        obtain ⟨cN, hcN⟩ : ∃ cN, compM s m lp = cN := ⟨_, rfl⟩
        simp only [hcN] at CC
        rw [hcN] at hc
        clear h hv hls h0 hcN hst hk
        go_enter Try.func7, Try.ntmps7
        go_wp2_with (first
          | (go_at_call 19; ((with_reducible refine CV.out.mono ?_); rintro e w1 ⟨rfl, hb1⟩; have e0 := (hb1.cell (p := ⟨w.heap.size, 0, none⟩) dlt).trans d0; have e1 := (hb1.cell (p := ⟨w.heap.size, 1, none⟩) dlt).trans d1; have e2 := (hb1.cell (p := ⟨w.heap.size, 2, none⟩) dlt).trans d2; have elt := Nat.lt_of_lt_of_le dlt hb1.size))
          | (go_at_call 20; ((with_reducible refine (CC _ hb1).out.mono ?_); rintro e w2 ⟨rfl, hb2⟩; have hb12 := below_step hb1 hb2; have f0 := (hb2.cell (p := ⟨w.heap.size, 0, none⟩) elt).trans e0; have f1 := (hb2.cell (p := ⟨w.heap.size, 1, none⟩) elt).trans e1; have f2 := (hb2.cell (p := ⟨w.heap.size, 2, none⟩) elt).trans e2))
          | (go_at_call 22; ((with_reducible refine (CS _ hb12).out.mono ?_); rintro e w3 ⟨v3, rfl, ho, hb3⟩; obtain ⟨A3, c3, rfl, hro⟩ := ho.ro; obtain ⟨b3, o3, rfl, hbl⟩ := hro.at_ (Nat.zero_lt_succ _); obtain ⟨A4, n4, c4, hcel, hri⟩ := hro.el 0 (Nat.zero_lt_succ _); rw [Nat.add_zero] at hcel; obtain rfl : n4 = 2 * ns := hri.1.symm.trans HKL.out; have hb13 := below_step hb12 hb3))
          | (go_at_call 21; ((with_reducible refine (CO _ _ _ hri).out.mono ?_); rintro e w4 ⟨rfl, hA4, hb4⟩)))
        go_ret2
        obtain ⟨z1, z2⟩ := HE.out
        exact ⟨_, ns, ns, by rw [z1]; rfl, by rw [z2]; exact ri_arr hA4, below_step (below_step hb0 hb13) hb4⟩

end Go.Proofs.Ytebliaclleplgaa

/- The example of the chapter on Dowker codes, computed. -/
namespace Go.Proofs.Ytebliaclleplgaa
open Go.RowKit

def exC : List Int := [4, 6, 2]
def exS : List Int := [1, 1, 1]
def exM : List Int := [5, 8, 11, 6, 9, 0, 3, 10, 1, 4, 7, 2]
theorem ex_inL : inL exC := by
  intro j
  by_cases h : j < 3
  · match j, h with
    | 0, _ => decide
    | 1, _ => decide
    | 2, _ => decide
  · have : exC.getD j 0 = 0 := by simp [List.getD, exC, show 3 ≤ j by omega]
    rw [this]; decide
theorem ex_dv : dvB exC = true := by decide +kernel
theorem ex_mk : mkM exC exS = exM := by decide +kernel
theorem ex_lab : IsLab (matesOf exM) 12 3 (fun _ => 0) := by
  refine ⟨fun c hc => ⟨Nat.zero_le _, ?_⟩, fun _ _ => rfl⟩
  have h0 : Conn (matesOf exM) 12 0 1 := Conn.step 0 (by omega) (Conn.refl 0)
  have h1 : Conn (matesOf exM) 12 0 2 := Conn.step 1 (by omega) (Conn.refl 0)
  match c, hc with
  | 0, _ => exact .refl _
  | 1, _ => exact h0.symm
  | 2, _ => exact h1.symm
theorem ex_sph : sphM exM 3 = true := by
  show sphB (ufLab (matesOf exM) 12) (ff (matesOf exM)) (4 * 3) 3 = true
  rw [sphB_congr (G := fun _ => 0) fun c hc => (ufLab_isLab (matesOf exM) 12 3).unique ex_lab c hc]
  decide +kernel
theorem ex_valid : validB exS exM 0 = true := by
  unfold validB
  rw [show exS.length = 3 from rfl, ex_sph]
  decide +kernel
theorem ex_strands : strandsM exS exM 0 = [[1, 10, 5, 2, 9, 6]] := by
  unfold strandsM; rw [if_pos ex_valid]; decide +kernel
theorem ex_dgS : dgS exC = some exS := by
  have h0 : srch exC 0 exS = some exS := by
    show (if validB exS (mkM exC exS) 0 = true then some exS else none) = _
    rw [ex_mk, ex_valid]; rfl
  have h1 : srch exC 1 [1, 1] = some exS := by
    show (match srch exC 0 exS with | some l => some l | none => _) = _
    rw [h0]
  show (match srch exC 1 [1, 1] with | some l => some l | none => _) = _
  rw [h1]
theorem ex_dg : dgE exC = 0 ∧ dgL exC = exS ∧ dgM exC = exM := by
  have h14 : ¬ 14 < exC.length := by decide
  have hf : ¬ (true = false) := by decide
  refine ⟨?_, ?_, ?_⟩
  · unfold dgE; rw [ex_dv, if_neg hf, if_neg h14, ex_dgS]
  · unfold dgL; rw [ex_dv, if_neg hf, if_neg h14, ex_dgS]
  · unfold dgM; rw [ex_dv, if_neg hf, if_neg h14, ex_dgS]; exact ex_mk
theorem ex_of : ofE exS exM 0 = 0 ∧ ofL exS exM 0 = exC := by
  have hf : ¬ (true = false) := by decide
  have h0 : ¬ exS.length = 0 := by decide
  have h1 : ¬ 1 < compM exS exM 0 := by unfold compM; rw [if_pos ex_valid, ex_strands]; decide
  refine ⟨?_, ?_⟩
  · unfold ofE; rw [ex_valid, if_neg hf, if_neg h0, if_neg h1]
  · unfold ofL; rw [ex_valid, if_neg hf, if_neg h0, if_neg h1, ex_strands]; decide +kernel

end Go.Proofs.Ytebliaclleplgaa

/- Walk: awake of layer 4. -/
namespace Go.Proofs.Ytebliaclleplgaa
open Go.RowKit

theorem ri_lit (w : World) (xs : List Int) : RI (w.alloc (.cells (ints xs).toArray 3)) (some ⟨w.heap.size, 0, none⟩) xs.length xs :=
  ⟨rfl, fun _ => ⟨w.heap.size, 0, rfl, by simp, fun j hj => by
    rw [World.cell?_alloc_at _ _ _ _ rfl, Nat.zero_add]
    simp [ints, List.getD, hj]⟩⟩
theorem ex_signs (A : Option Addr) (c : Nat) (W : World) (h : RI W A 3 exC) : Calls Try.prog 15 #[.slice A 3 c] W fun e w' => ∃ A' cs, e = .returned (.tuple #[.slice A' 3 cs, .int .i64 0]) ∧ RI w' A' 3 exS ∧ Below W.heap.size W w' := by
  refine (dsigns_any A 3 c exC W h (by omega) ex_inL).mono ?_
  rintro e w' ⟨A', ns, cs, rfl, h1, hb⟩
  rw [ex_dg.2.1] at h1
  obtain rfl : ns = 3 := h1.1.symm
  exact ⟨A', cs, by rw [ex_dg.1], h1, hb⟩
theorem ex_diagram (A : Option Addr) (c : Nat) (W : World) (h : RI W A 3 exC) : Calls Try.prog 9 #[.slice A 3 c] W fun e w' => ∃ A' cs B cm, e = .returned (.tuple #[dval A' 3 cs B 12 cm 0, .int .i64 0]) ∧ DV w' A' 3 B 12 exS exM ∧ Below W.heap.size W w' := by
  refine (diagram_any A 3 c exC W h (by omega) ex_inL).mono ?_
  rintro e w' ⟨A', ns, cs, B, nm, cm, rfl, h1, h2, hb⟩
  rw [ex_dg.2.1] at h1
  rw [ex_dg.2.2] at h2
  obtain rfl : ns = 3 := h1.1.symm
  obtain rfl : nm = 12 := h2.1.symm
  exact ⟨A', cs, B, cm, by rw [ex_dg.1], ⟨h1, h2, by omega, by omega, by decide⟩, hb⟩
theorem ex_dof (A B : Option Addr) (cs cm : Nat) (W : World) (h : DV W A 3 B 12 exS exM) : Calls Try.prog 7 #[dval A 3 cs B 12 cm 0] W fun e w' => ∃ A' c, e = .returned (.tuple #[.slice A' 3 c, .int .i64 0]) ∧ RI w' A' 3 exC ∧ Below W.heap.size W w' := by
  refine (dof_any A B 3 cs 12 cm 0 exS exM W h).mono ?_
  rintro e w' ⟨A', n, c, rfl, h1, hb⟩
  rw [ex_of.2] at h1
  obtain rfl : n = 3 := h1.1.symm
  exact ⟨A', c, by rw [ex_of.1], h1, hb⟩

set_option maxHeartbeats 3200000 in
set_option maxRecDepth 100000 in
theorem dawake_any (w : World) : Calls Try.prog 5 #[] w fun e w' => e = .returned (.bool true) ∧ Below w.heap.size w w' := by
  go_enter Try.func5, Try.ntmps5
  go_wp2_with fail
  refine (ex_signs _ _ _ (ri_lit w exC)).mono ?_
  rintro e w1 ⟨A1, c1, rfl, hA1, hb1⟩
  have hw1 := below_step (below_alloc w _) hb1
  clear hb1
  go_wp2_with fail
  refine (ex_diagram _ _ _ (ri_lit w1 exC)).mono ?_
  rintro e w2 ⟨A2, c2, B2, m2, rfl, hD2, hb2⟩
  have hb12 := below_step (below_alloc w1 _) hb2
  have hw2 := below_step hw1 hb12
  have hA2 := hA1.keep hb12
  clear hb2 hw1 hA1 hb12
  go_wp2_with fail
  refine (ex_dof _ _ _ _ _ (hD2.keep (below_alloc _ _))).mono ?_
  rintro e w3 ⟨A3, c3, rfl, hA3, hb3⟩
  have hb23 := below_step (below_alloc w2 _) hb3
  have hw3 := below_step hw2 hb23
  have hA23 := hA2.keep hb23
  clear hb3 hw2 hA2 hb23 hD2
  go_wp2_with fail
  refine (ints_r true _ _ 3 _ 3 _ exS exS _ (hA23.alloc _) (ri_lit w3 exS) (by omega) (by omega) rfl).mono ?_
  rintro e w4 ⟨rfl, hb4⟩
  have hb34 := below_step (below_alloc w3 _) hb4
  have hw4 := below_step hw3 hb34
  have hA34 := hA3.keep hb34
  clear hb4 hw3 hA3 hb34 hA23
  go_wp2_with fail
  refine (ints_r true _ _ 3 _ 3 _ exC exC _ (hA34.alloc _) (ri_lit w4 exC) (by omega) (by omega) rfl).mono ?_
  rintro e w5 ⟨rfl, hb5⟩
  have hw5 := below_step hw4 (below_step (below_alloc w4 _) hb5)
  clear hb5 hw4
  go_wp2
  go_ret
  exact ⟨rfl, hw5⟩

end Go.Proofs.Ytebliaclleplgaa
