import Derived.Test.YtebliaclleplgaaA08
import Derived.Deep.RegionHeld3
import Derived.Laws.EntriesVeiled
/- Walk: the first drawing of a code. -/
namespace Go.Proofs.Ytebliaclleplgaa
open Go.RowKit

theorem heap2_0 (w : World) (a b : Obj) : ((w.alloc a).alloc b).heap[w.heap.size]? = some a := (Below.heap_alloc (w.alloc a) b w.heap.size (by simp)).trans (heap_alloc_new w a)
theorem heap2_1 (w : World) (a b : Obj) : ((w.alloc a).alloc b).heap[w.heap.size + 1]? = some b := by
  have := heap_alloc_new (w.alloc a) b
  simpa using this
theorem heap3_0 (w : World) (a b c : Obj) : (((w.alloc a).alloc b).alloc c).heap[w.heap.size]? = some a := (Below.heap_alloc ((w.alloc a).alloc b) c w.heap.size (by simp <;> omega)).trans (heap2_0 w a b)
theorem heap3_1 (w : World) (a b c : Obj) : (((w.alloc a).alloc b).alloc c).heap[w.heap.size + 1]? = some b := (Below.heap_alloc ((w.alloc a).alloc b) c (w.heap.size + 1) (by simp)).trans (heap2_1 w a b)
theorem heap3_2 (w : World) (a b c : Obj) : (((w.alloc a).alloc b).alloc c).heap[w.heap.size + 2]? = some c := by
  have := heap_alloc_new ((w.alloc a).alloc b) c
  simpa using this
theorem pb1 (w : World) (a : Obj) : Below w.heap.size w (w.alloc a).drew := (below_alloc w a).drew
theorem pb2 (w : World) (a b : Obj) : Below w.heap.size w ((w.alloc a).alloc b).drew := (below_step (below_alloc w a) (below_alloc _ b)).drew
theorem pb3 (w : World) (a b c : Obj) : Below w.heap.size w (((w.alloc a).alloc b).alloc c).drew := (below_step (below_step (below_alloc w a) (below_alloc _ b)) (below_alloc _ c)).drew
abbrev set3w (W : World) (g : Nat) (a b c : Value) : World := ((W.setCell ⟨g, 0, none⟩ a).setCell ⟨g, 1, none⟩ b).setCell ⟨g, 2, none⟩ c
theorem set3w_far (W : World) (g : Nat) (a b c : Value) {h : Nat} (hne : g ≠ h) (i : Nat) : (set3w W g a b c).cell? ⟨h, i, none⟩ = W.cell? ⟨h, i, none⟩ := by
  unfold set3w
  rw [World.cell?_setCell_other _ _ _ _ (by simp), World.cell?_setCell_other _ _ _ _ (by simp), World.cell?_setCell_other _ _ _ _ (by simp)] <;> (simp; omega)
theorem set3w_cells (W : World) (g : Nat) (a b c : Value) {u0 u1 u2 : Value} (q0 : W.cell? ⟨g, 0, none⟩ = some u0) (q1 : W.cell? ⟨g, 1, none⟩ = some u1) (q2 : W.cell? ⟨g, 2, none⟩ = some u2) :
    (set3w W g a b c).cell? ⟨g, 0, none⟩ = some a ∧ (set3w W g a b c).cell? ⟨g, 1, none⟩ = some b ∧ (set3w W g a b c).cell? ⟨g, 2, none⟩ = some c := by
  unfold set3w
  refine ⟨?_, ?_, ?_⟩
  · rw [World.cell?_setCell_other _ _ _ _ (by simp), World.cell?_setCell_other _ _ _ _ (by simp), World.cell?_setCell_same _ _ _ q0]
  · have h1 : (W.setCell ⟨g, 0, none⟩ a).cell? ⟨g, 1, none⟩ = some u1 := by rw [World.cell?_setCell_other _ _ _ _ (by simp)]; exact q1
    rw [World.cell?_setCell_other _ _ _ _ (by simp), World.cell?_setCell_same _ _ _ h1]
  · have h2 : ((W.setCell ⟨g, 0, none⟩ a).setCell ⟨g, 1, none⟩ b).cell? ⟨g, 2, none⟩ = some u2 := by rw [World.cell?_setCell_other _ _ _ _ (by simp), World.cell?_setCell_other _ _ _ _ (by simp)]; exact q2
    rw [World.cell?_setCell_same _ _ _ h2]
theorem set3w_below {B : Nat} {a W : World} (h : Below B a W) {g : Nat} (hg : B ≤ g) (x y z : Value) : Below B a (set3w W g x y z) := below_set (below_set (below_set h hg _) hg _) hg _
/-- An empty box of a diagram. -/
def BxAt (w : World) (g : Nat) : Prop := DB w g none 0 0 none 0 0 0 ∧ ∀ i, w.frozen? ⟨g, i, none⟩ = false
theorem BxAt.kp {w w' : World} {g : Nat} (h : BxAt w g) (hb : Below w.heap.size w w') : BxAt w' g := ⟨h.1.keep hb, fun i => (hb.frozen (p := ⟨g, i, none⟩) h.1.2.2.2).trans (h.2 i)⟩
theorem BxAt.al {w : World} {g : Nat} (h : BxAt w g) (o : Obj) : BxAt (w.alloc o) g := h.kp (below_alloc w o)
theorem bx_pre {W w1 : World} {j : Nat} {t : TypeId} (hh : W.heap[j]? = some (.cells #[.slice none 0 0, .slice none 0 0, .int .i64 0] t (0, 0))) (hb : Below W.heap.size W w1) : BxAt w1 j := by
  have hl := (Array.getElem?_eq_some_iff.1 hh).1
  refine BxAt.kp (w := W) ⟨⟨?_, ?_, ?_, hl⟩, fun i => frozen_of_row W j i _ t hh⟩ hb <;> (simp [World.cell?, hh])
theorem arr_pre {W w1 : World} {j n : Nat} (hh : W.heap[j]? = some (.cells (cellsN n fun _ => .int .i64 0) 3 (0, 0))) (hb : Below W.heap.size W w1) : Arr w1 j 3 n (iv fun _ => 0) :=
  ((show Arr W j 3 n (fun _ => .int .i64 0) from hh).keep hb).congr fun _ _ => rfl
theorem rep_pre (W wA : World) (b n : Nat) (z : Int) (l : Nat) (t : TypeId) (hs : W.heap.size = wA.heap.size + l) (hbA : Below wA.heap.size wA W) (hh : W.heap[b]? = some (.cells #[.int .i64 z] t (0, 0))) (hn : n ≤ 1000) :
    Calls Try.prog 42 #[.slice (some ⟨b, 0, none⟩) 1 1, .int .i64 (n : Nat)] W fun e w1 => e = .returned (.slice (some ⟨wA.heap.size + l, 0, none⟩) n n) ∧ Arr w1 (wA.heap.size + l) 3 n (zv fun _ => z) ∧ Below wA.heap.size wA w1 ∧ wA.heap.size + l < w1.heap.size ∧ Below W.heap.size W w1 := by
  have hl := (Array.getElem?_eq_some_iff.1 hh).1
  refine (repeat_any b n z W hl (by simp [World.cell?, hh]) hn).mono ?_
  rintro e w1 ⟨rfl, hA, hb⟩
  rw [hs] at hA
  refine ⟨by rw [hs], hA, below_step hbA hb, hA.lt, hb⟩
/-- A cell that stays as it is. -/
def NAt (W : World) (h : Nat) (u : Value) : Prop := W.cell? ⟨h, 0, none⟩ = some u ∧ h < W.heap.size
theorem nat_pre {W : World} {j : Nat} {u : Value} {t : TypeId} (hh : W.heap[j]? = some (.cells #[u] t (0, 0))) : NAt W j u := ⟨by simp [World.cell?, hh], (Array.getElem?_eq_some_iff.1 hh).1⟩
theorem NAt.keep {W W' : World} {h : Nat} {u : Value} (hS : NAt W h u) (hb : Below W.heap.size W W') : NAt W' h u := ⟨(hb.cell (p := ⟨h, 0, none⟩) hS.2).trans hS.1, Nat.lt_of_lt_of_le hS.2 hb.size⟩
theorem NAt.al {W : World} {h : Nat} {u : Value} (hS : NAt W h u) (o : Obj) : NAt (W.alloc o) h u := hS.keep (below_alloc W o)
theorem NAt.set {W : World} {h g : Nat} {u : Value} (hS : NAt W h u) (hne : g ≠ h) (x y z : Value) : NAt (set3w W g x y z) h u := ⟨(set3w_far W g x y z hne 0).trans hS.1, by simp [World.setCell]; exact hS.2⟩
theorem NAt.st {W : World} {h : Nat} {u : Value} (hS : NAt W h u) : W.cell? ⟨h, 0, none⟩ = some u := hS.1
theorem arr0 (w : World) (n : Nat) : Arr (w.alloc (.cells (cellsN n fun _ => .int .i64 0) 3)) w.heap.size 3 n (iv fun _ => 0) := (Arr.new w n 3 (fun _ => .int .i64 0)).congr fun _ _ => rfl
theorem dbNew (w : World) (A : Option Addr) (ns cs : Nat) (B : Option Addr) (nm cm : Nat) (lp : Int) (t : TypeId) : DB (w.alloc (.cells #[.slice A ns cs, .slice B nm cm, .int .i64 lp] t)) w.heap.size A ns cs B nm cm lp := by
  refine ⟨?_, ?_, ?_, by simp⟩ <;> (rw [World.cell?_alloc_at _ _ _ _ rfl]; rfl)
/-- What the box of the diagram holds when it has been made. -/
def FDMade (wA : World) (n : Nat) (v : Value) (wX : World) : Prop :=
  ∃ gd gS gM, v = .pointer (some ⟨gd, 0, none⟩) ∧ DB wX gd (some ⟨gS, 0, none⟩) n n (some ⟨gM, 0, none⟩) (4 * n) (4 * n) 0 ∧ Arr wX gS 3 n (zv fun _ => 1) ∧ Arr wX gM 3 (4 * n) (iv fun _ => 0) ∧
    wA.heap.size ≤ gd ∧ wA.heap.size ≤ gS ∧ wA.heap.size ≤ gM ∧ gS ≠ gM ∧ gd ≠ gS ∧ gd ≠ gM ∧ Below wA.heap.size wA wX
theorem fd_new {wA w1 : World} {n gS gM : Nat} (t : TypeId) (hS : Arr w1 gS 3 n (zv fun _ => 1)) (hm : Arr w1 gM 3 (4 * n) (iv fun _ => 0)) (h1 : wA.heap.size ≤ gS) (h2 : wA.heap.size ≤ gM) (h3 : gS ≠ gM) (hb : Below wA.heap.size wA w1) :
    FDMade wA n (.pointer (some ⟨w1.heap.size, 0, none⟩)) (w1.alloc (.cells #[.slice (some ⟨gS, 0, none⟩) n n, .slice (some ⟨gM, 0, none⟩) (4 * n) (4 * n), .int .i64 0] t)) :=
  ⟨w1.heap.size, gS, gM, rfl, dbNew w1 _ _ _ _ _ _ _ t, hS.alloc _, hm.alloc _, hb.size, h1, h2, h3, by have := hS.lt; omega, by have := hm.lt; omega, below_step hb (below_alloc _ _)⟩
theorem fd_aft {wA w1 : World} {n gS : Nat} (t : TypeId) (hS : Arr w1 gS 3 n (zv fun _ => 1)) (h1 : wA.heap.size ≤ gS) (hb : Below wA.heap.size wA w1) :
    FDMade wA n (.pointer (some ⟨w1.heap.size + 1, 0, none⟩)) ((w1.alloc (.cells (cellsN (4 * n) fun _ => .int .i64 0) 3)).alloc (.cells #[.slice (some ⟨gS, 0, none⟩) n n, .slice (some ⟨w1.heap.size, 0, none⟩) (4 * n) (4 * n), .int .i64 0] t)) := by
  have h := fd_new t (hS.alloc (.cells (cellsN (4 * n) fun _ => .int .i64 0) 3)) (arr0 w1 (4 * n)) h1 hb.size (by have := hS.lt; omega) (below_step hb (below_alloc _ _))
  rw [show (w1.alloc (.cells (cellsN (4 * n) fun _ => .int .i64 0) 3)).heap.size = w1.heap.size + 1 by simp] at h
  exact h
theorem fd_mid {wA w1 : World} {n gS : Nat} (t : TypeId) (hS : Arr w1 gS 3 n (zv fun _ => 1)) (h1 : wA.heap.size ≤ gS) (hb : Below wA.heap.size wA w1) :
    FDMade wA n (.pointer (some ⟨w1.heap.size, 0, none⟩)) ((w1.alloc (.cells #[.slice (some ⟨gS, 0, none⟩) n n, .slice (some ⟨w1.heap.size + 1, 0, none⟩) (4 * n) (4 * n), .int .i64 0] t)).alloc (.cells (cellsN (4 * n) fun _ => .int .i64 0) 3)) := by
  have h2 := arr0 (w1.alloc (.cells #[.slice (some ⟨gS, 0, none⟩) n n, .slice (some ⟨w1.heap.size + 1, 0, none⟩) (4 * n) (4 * n), .int .i64 0] t)) (4 * n)
  rw [show (w1.alloc (.cells #[.slice (some ⟨gS, 0, none⟩) n n, .slice (some ⟨w1.heap.size + 1, 0, none⟩) (4 * n) (4 * n), .int .i64 0] t)).heap.size = w1.heap.size + 1 by simp] at h2
  have hs := hb.size
  have hl := hS.lt
  exact ⟨w1.heap.size, gS, w1.heap.size + 1, rfl, (dbNew w1 _ _ _ _ _ _ _ t).keep (below_alloc _ _), (hS.alloc _).alloc _, h2, hs, h1, by omega, by omega, by omega, by omega, below_step (below_step hb (below_alloc _ _)) (below_alloc _ _)⟩
theorem fd_set {wA w1 : World} {n gS gM gD : Nat} (hbx : BxAt w1 gD) (hS : Arr w1 gS 3 n (zv fun _ => 1)) (hm : Arr w1 gM 3 (4 * n) (iv fun _ => 0)) (h0 : wA.heap.size ≤ gD) (h1 : wA.heap.size ≤ gS) (h2 : wA.heap.size ≤ gM) (h3 : gS ≠ gM) (h4 : gD ≠ gS) (h5 : gD ≠ gM) (hb : Below wA.heap.size wA w1) :
    FDMade wA n (.pointer (some ⟨gD, 0, none⟩)) (set3w w1 gD (.slice (some ⟨gS, 0, none⟩) n n) (.slice (some ⟨gM, 0, none⟩) (4 * n) (4 * n)) (.int .i64 0)) := by
  obtain ⟨k0, k1, k2⟩ := set3w_cells w1 gD (.slice (some ⟨gS, 0, none⟩) n n) (.slice (some ⟨gM, 0, none⟩) (4 * n) (4 * n)) (.int .i64 0) hbx.1.1 hbx.1.2.1 hbx.1.2.2.1
  have hlt := hbx.1.2.2.2
  have e1 : gS ≠ gD := fun e => h4 e.symm
  have e2 : gM ≠ gD := fun e => h5 e.symm
  exact ⟨gD, gS, gM, rfl, ⟨k0, k1, k2, by simp [World.setCell]; exact hlt⟩, ((hS.far (p := ⟨gD, 0, none⟩) e1 _).far (p := ⟨gD, 1, none⟩) e1 _).far (p := ⟨gD, 2, none⟩) e1 _,
    ((hm.far (p := ⟨gD, 0, none⟩) e2 _).far (p := ⟨gD, 1, none⟩) e2 _).far (p := ⟨gD, 2, none⟩) e2 _, h0, h1, h2, h3, h4, h5, set3w_below hb h0 _ _ _⟩
theorem fd_setm {wA w1 : World} {n gS gD : Nat} (hbx : BxAt w1 gD) (hS : Arr w1 gS 3 n (zv fun _ => 1)) (h0 : wA.heap.size ≤ gD) (h1 : wA.heap.size ≤ gS) (h4 : gD ≠ gS) (hb : Below wA.heap.size wA w1) :
    FDMade wA n (.pointer (some ⟨gD, 0, none⟩)) (set3w (w1.alloc (.cells (cellsN (4 * n) fun _ => .int .i64 0) 3)) gD (.slice (some ⟨gS, 0, none⟩) n n) (.slice (some ⟨w1.heap.size, 0, none⟩) (4 * n) (4 * n)) (.int .i64 0)) :=
  fd_set (hbx.al _) (hS.alloc _) (arr0 w1 (4 * n)) h0 h1 hb.size (by have := hS.lt; omega) h4 (by have := hbx.1.2.2.2; omega) (below_step hb (below_alloc _ _))

def FirstPost (code : List Int) (n : Nat) (w : World) (r : Option (List Int)) (e : Ending) (w' : World) : Prop :=
  Below w.heap.size w w' ∧ match r with
    | some l => ∃ gS gM, e = .returned (.tuple #[dval (some ⟨gS, 0, none⟩) n n (some ⟨gM, 0, none⟩) (4 * n) (4 * n) 0, .bool true]) ∧ RI w' (some ⟨gS, 0, none⟩) n l ∧ RI w' (some ⟨gM, 0, none⟩) (4 * n) (mkM code l) ∧ w.heap.size ≤ gS ∧ w.heap.size ≤ gM
    | none => e = .returned (.tuple #[dval none 0 0 none 0 0 0, .bool false])

set_option maxHeartbeats 6400000 in
set_option maxRecDepth 100000 in
theorem first_any (C : Option Addr) (n cc : Nat) (code : List Int) (w : World) (hC : RI w C n code) (h64 : n ≤ 64) (hI : inL code) (hv : dvB code = true) :
    Calls Try.prog 23 #[.slice C n cc] w (FirstPost code n w (srch code (n - 1) [1])) := by
  have hpos : 0 < n := by have := (dvB_iff code).1 hv; have := hC.1; omega
  have hn1000 : n ≤ 1000 := by omega
  have hni0 : (0 : Int) ≤ (n : Int) := Int.natCast_nonneg _
  have hni1 : (n : Int) ≤ 64 := by omega
  have hmk : ∀ W, (Instr.makeSlice 22 (.int .i64 (4 * (n : Int))) (.int .i64 (4 * (n : Int)))).run Try.prog W = .ok (.slice (some ⟨W.heap.size, 0, none⟩) (4 * n) (4 * n)) (W.alloc (.cells (cellsN (4 * n) fun _ => .int .i64 0) 3)) := fun W => by
    have := make_one (P := Try.prog) Try.underlying22 Try.infoInt rfl (4 * n) (by omega) (by omega) W
    rw [show ((4 * n : Nat) : Int) = 4 * (n : Int) by omega] at this
    exact this
  have HI := Lib.hid hI
  have HV := Lib.hid hv
  have HC := Lib.hid hC
  clear hI hv hC
  go_enter Try.func23, Try.ntmps23
  go_upto_region 2 with fail
  have hb0 : Below w.heap.size w (((w.alloc (.cells #[.slice C n cc] 22)).alloc (.cells #[.slice none 0 0, .slice none 0 0, .int .i64 0] 24)).alloc (.cells #[.int .i64 n] 3)) := below_step (below_step (below_alloc w _) (below_alloc _ _)) (below_alloc _ _)
  have hgc : NAt (((w.alloc (.cells #[.slice C n cc] 22)).alloc (.cells #[.slice none 0 0, .slice none 0 0, .int .i64 0] 24)).alloc (.cells #[.int .i64 n] 3)) w.heap.size (.slice C n cc) := nat_pre (heap3_0 w _ _ _)
  have hgn : NAt (((w.alloc (.cells #[.slice C n cc] 22)).alloc (.cells #[.slice none 0 0, .slice none 0 0, .int .i64 0] 24)).alloc (.cells #[.int .i64 n] 3)) (w.heap.size + 2) (.int .i64 n) := nat_pre (heap3_2 w _ _ _)
  have hgr : BxAt (((w.alloc (.cells #[.slice C n cc] 22)).alloc (.cells #[.slice none 0 0, .slice none 0 0, .int .i64 0] 24)).alloc (.cells #[.int .i64 n] 3)) (w.heap.size + 1) :=
    bx_pre (heap3_1 w (.cells #[.slice C n cc] 22) (.cells #[.slice none 0 0, .slice none 0 0, .int .i64 0] 24) (.cells #[.int .i64 n] 3)) (Below.refl _ _)
  have hszA : (((w.alloc (.cells #[.slice C n cc] 22)).alloc (.cells #[.slice none 0 0, .slice none 0 0, .int .i64 0] 24)).alloc (.cells #[.int .i64 n] 3)).heap.size = w.heap.size + 3 := by simp
  have HCA := Lib.hid (HC.out.keep hb0)
  generalize ((w.alloc (.cells #[.slice C n cc] 22)).alloc (.cells #[.slice none 0 0, .slice none 0 0, .int .i64 0] 24)).alloc (.cells #[.int .i64 n] 3) = wA at *
  obtain ⟨gn, hgne⟩ : ∃ gn, w.heap.size + 2 = gn := ⟨_, rfl⟩
  rw [show w.heap.size + 1 + 1 = w.heap.size + 2 by omega]
  rw [hgne] at hgn ⊢
  obtain ⟨gr, hgre⟩ : ∃ gr, w.heap.size + 1 = gr := ⟨_, rfl⟩
  rw [hgre] at hgr ⊢
  obtain ⟨gc, hgce⟩ : ∃ gc, w.heap.size = gc := ⟨_, rfl⟩
  have HBw : Hid (∀ W, Below wA.heap.size wA W → Below w.heap.size w W) := Lib.hid (fun W h => hb0.trans (h.mono hb0.size))
  rw [hgce] at hgc ⊢
  have HGR := Lib.hid hgr
  have HGC := Lib.hid hgc
  have HNA := Lib.hid hgn
  have HX : Hid (gc < gr ∧ gr < gn ∧ gn < wA.heap.size ∧ w.heap.size = gc) := Lib.hid ⟨by omega, by omega, by omega, hgce⟩
  have HH := Lib.hid hgce
  have hn0 : wA.heap.size ≠ gn := by omega
  have hn1 : wA.heap.size + 1 ≠ gn := by omega
  have hn2 : wA.heap.size + 2 ≠ gn := by omega
  have hw4 : IntKind.i64.wrap (4 * (n : Int)) = 4 * (n : Int) := IntWalk.i64_in _ (by omega)
  have K0 := hgn.1
  have K1 : Hid (∀ o1, (wA.alloc o1).drew.cell? ⟨gn, 0, none⟩ = some (.int .i64 n)) := Lib.hid (fun o1 => (HNA.out.keep (pb1 wA o1)).1)
  have K2 : Hid (∀ o1 o2, ((wA.alloc o1).alloc o2).drew.cell? ⟨gn, 0, none⟩ = some (.int .i64 n)) := Lib.hid (fun o1 o2 => (HNA.out.keep (pb2 wA o1 o2)).1)
  have K3 : Hid (∀ o1 o2 o3, (((wA.alloc o1).alloc o2).alloc o3).drew.cell? ⟨gn, 0, none⟩ = some (.int .i64 n)) := Lib.hid (fun o1 o2 o3 => (HNA.out.keep (pb3 wA o1 o2 o3)).1)
  clear hgc hgn hgr hgne hgre hgce hszA hb0
  have CRB := Lib.hid (rep_pre (wA.alloc (.cells #[.int .i64 1] 3)).drew wA (wA.heap.size) n 1 1 3 (by (simp <;> omega)) (pb1 wA _) (by exact heap_alloc_new wA _) hn1000)
  have CRBM := Lib.hid (rep_pre ((wA.alloc (.cells #[.int .i64 1] 3)).alloc (.cells (cellsN (4 * n) fun _ => .int .i64 0) 3)).drew wA (wA.heap.size) n 1 2 3 (by (simp <;> omega)) (pb2 wA _ _) (by exact heap2_0 wA _ _) hn1000)
  have CRMB := Lib.hid (rep_pre ((wA.alloc (.cells (cellsN (4 * n) fun _ => .int .i64 0) 3)).alloc (.cells #[.int .i64 1] 3)).drew wA (wA.heap.size + 1) n 1 2 3 (by (simp <;> omega)) (pb2 wA _ _) (by exact heap2_1 wA _ _) hn1000)
  have CRBD := Lib.hid (rep_pre ((wA.alloc (.cells #[.int .i64 1] 3)).alloc (.cells #[.slice none 0 0, .slice none 0 0, .int .i64 0] 24)).drew wA (wA.heap.size) n 1 2 3 (by (simp <;> omega)) (pb2 wA _ _) (by exact heap2_0 wA _ _) hn1000)
  have CRDB := Lib.hid (rep_pre ((wA.alloc (.cells #[.slice none 0 0, .slice none 0 0, .int .i64 0] 24)).alloc (.cells #[.int .i64 1] 3)).drew wA (wA.heap.size + 1) n 1 2 3 (by (simp <;> omega)) (pb2 wA _ _) (by exact heap2_1 wA _ _) hn1000)
  have CRBMD := Lib.hid (rep_pre (((wA.alloc (.cells #[.int .i64 1] 3)).alloc (.cells (cellsN (4 * n) fun _ => .int .i64 0) 3)).alloc (.cells #[.slice none 0 0, .slice none 0 0, .int .i64 0] 24)).drew wA (wA.heap.size) n 1 3 3 (by (simp <;> omega)) (pb3 wA _ _ _) (by exact heap3_0 wA _ _ _) hn1000)
  have CRBDM := Lib.hid (rep_pre (((wA.alloc (.cells #[.int .i64 1] 3)).alloc (.cells #[.slice none 0 0, .slice none 0 0, .int .i64 0] 24)).alloc (.cells (cellsN (4 * n) fun _ => .int .i64 0) 3)).drew wA (wA.heap.size) n 1 3 3 (by (simp <;> omega)) (pb3 wA _ _ _) (by exact heap3_0 wA _ _ _) hn1000)
  have CRMBD := Lib.hid (rep_pre (((wA.alloc (.cells (cellsN (4 * n) fun _ => .int .i64 0) 3)).alloc (.cells #[.int .i64 1] 3)).alloc (.cells #[.slice none 0 0, .slice none 0 0, .int .i64 0] 24)).drew wA (wA.heap.size + 1) n 1 3 3 (by (simp <;> omega)) (pb3 wA _ _ _) (by exact heap3_1 wA _ _ _) hn1000)
  have CRMDB := Lib.hid (rep_pre (((wA.alloc (.cells (cellsN (4 * n) fun _ => .int .i64 0) 3)).alloc (.cells #[.slice none 0 0, .slice none 0 0, .int .i64 0] 24)).alloc (.cells #[.int .i64 1] 3)).drew wA (wA.heap.size + 2) n 1 3 3 (by (simp <;> omega)) (pb3 wA _ _ _) (by exact heap3_2 wA _ _ _) hn1000)
  have CRDBM := Lib.hid (rep_pre (((wA.alloc (.cells #[.slice none 0 0, .slice none 0 0, .int .i64 0] 24)).alloc (.cells #[.int .i64 1] 3)).alloc (.cells (cellsN (4 * n) fun _ => .int .i64 0) 3)).drew wA (wA.heap.size + 1) n 1 3 3 (by (simp <;> omega)) (pb3 wA _ _ _) (by exact heap3_1 wA _ _ _) hn1000)
  have CRDMB := Lib.hid (rep_pre (((wA.alloc (.cells #[.slice none 0 0, .slice none 0 0, .int .i64 0] 24)).alloc (.cells (cellsN (4 * n) fun _ => .int .i64 0) 3)).alloc (.cells #[.int .i64 1] 3)).drew wA (wA.heap.size + 2) n 1 3 3 (by (simp <;> omega)) (pb3 wA _ _ _) (by exact heap3_2 wA _ _ _) hn1000)
  go_cut [5] (fun v wX => FDMade wA n v wX)
  case first =>
    go_region_held3 (fun w' => w'.cell? ⟨gn, 0, none⟩ = some (.int .i64 n))
      (first
        | with_reducible exact K3.out _ _ _
        | with_reducible exact K2.out _ _
        | with_reducible exact K1.out _
        | with_reducible exact hS1.st
        | with_reducible exact (NAt.al hS1 _).st
        | with_reducible exact (NAt.al (NAt.al hS1 _) _).st
        | with_reducible exact (NAt.set hS1 (by assumption) _ _ _).st
        | with_reducible exact (NAt.set (NAt.al hS1 _) (by assumption) _ _ _).st
        | with_reducible exact (NAt.set (NAt.al (NAt.al hS1 _) _) (by assumption) _ _ _).st
        | go_keep)
      (first
        | (go_at_call 42; ((with_reducible refine CRB.out.mono ?_); rintro e w1 ⟨rfl, hA1, hbB, hlt1, hbW⟩; have hS1 : NAt w1 gn (.int .i64 n) := HNA.out.keep hbB))
        | (go_at_call 42; ((with_reducible refine CRBM.out.mono ?_); rintro e w1 ⟨rfl, hA1, hbB, hlt1, hbW⟩; have hS1 : NAt w1 gn (.int .i64 n) := HNA.out.keep hbB; have hm1 : Arr w1 (wA.heap.size + 1) 3 (4 * n) (iv fun _ => 0) := arr_pre (W := ((wA.alloc (.cells #[.int .i64 1] 3)).alloc (.cells (cellsN (4 * n) fun _ => .int .i64 0) 3)).drew) (heap2_1 wA _ _) hbW))
        | (go_at_call 42; ((with_reducible refine CRMB.out.mono ?_); rintro e w1 ⟨rfl, hA1, hbB, hlt1, hbW⟩; have hS1 : NAt w1 gn (.int .i64 n) := HNA.out.keep hbB; have hm1 : Arr w1 (wA.heap.size) 3 (4 * n) (iv fun _ => 0) := arr_pre (W := ((wA.alloc (.cells (cellsN (4 * n) fun _ => .int .i64 0) 3)).alloc (.cells #[.int .i64 1] 3)).drew) (heap2_0 wA _ _) hbW))
        | (go_at_call 42; ((with_reducible refine CRBD.out.mono ?_); rintro e w1 ⟨rfl, hA1, hbB, hlt1, hbW⟩; have hS1 : NAt w1 gn (.int .i64 n) := HNA.out.keep hbB; have hbx : BxAt w1 (wA.heap.size + 1) := bx_pre (W := ((wA.alloc (.cells #[.int .i64 1] 3)).alloc (.cells #[.slice none 0 0, .slice none 0 0, .int .i64 0] 24)).drew) (heap2_1 wA _ _) hbW; have q0 := hbx.1.1; have q1 := hbx.1.2.1; have q2 := hbx.1.2.2.1; have f0 := hbx.2 0; have f1 := hbx.2 1; have f2 := hbx.2 2; have hby := hbx.al (.cells (cellsN (4 * n) fun _ => .int .i64 0) 3); have p0 := hby.1.1; have p1 := hby.1.2.1; have p2 := hby.1.2.2.1; have e0 := hby.2 0; have e1 := hby.2 1; have e2 := hby.2 2))
        | (go_at_call 42; ((with_reducible refine CRDB.out.mono ?_); rintro e w1 ⟨rfl, hA1, hbB, hlt1, hbW⟩; have hS1 : NAt w1 gn (.int .i64 n) := HNA.out.keep hbB; have hbx : BxAt w1 (wA.heap.size) := bx_pre (W := ((wA.alloc (.cells #[.slice none 0 0, .slice none 0 0, .int .i64 0] 24)).alloc (.cells #[.int .i64 1] 3)).drew) (heap2_0 wA _ _) hbW; have q0 := hbx.1.1; have q1 := hbx.1.2.1; have q2 := hbx.1.2.2.1; have f0 := hbx.2 0; have f1 := hbx.2 1; have f2 := hbx.2 2; have hby := hbx.al (.cells (cellsN (4 * n) fun _ => .int .i64 0) 3); have p0 := hby.1.1; have p1 := hby.1.2.1; have p2 := hby.1.2.2.1; have e0 := hby.2 0; have e1 := hby.2 1; have e2 := hby.2 2))
        | (go_at_call 42; ((with_reducible refine CRBMD.out.mono ?_); rintro e w1 ⟨rfl, hA1, hbB, hlt1, hbW⟩; have hS1 : NAt w1 gn (.int .i64 n) := HNA.out.keep hbB; have hm1 : Arr w1 (wA.heap.size + 1) 3 (4 * n) (iv fun _ => 0) := arr_pre (W := (((wA.alloc (.cells #[.int .i64 1] 3)).alloc (.cells (cellsN (4 * n) fun _ => .int .i64 0) 3)).alloc (.cells #[.slice none 0 0, .slice none 0 0, .int .i64 0] 24)).drew) (heap3_1 wA _ _ _) hbW; have hbx : BxAt w1 (wA.heap.size + 2) := bx_pre (W := (((wA.alloc (.cells #[.int .i64 1] 3)).alloc (.cells (cellsN (4 * n) fun _ => .int .i64 0) 3)).alloc (.cells #[.slice none 0 0, .slice none 0 0, .int .i64 0] 24)).drew) (heap3_2 wA _ _ _) hbW; have q0 := hbx.1.1; have q1 := hbx.1.2.1; have q2 := hbx.1.2.2.1; have f0 := hbx.2 0; have f1 := hbx.2 1; have f2 := hbx.2 2))
        | (go_at_call 42; ((with_reducible refine CRBDM.out.mono ?_); rintro e w1 ⟨rfl, hA1, hbB, hlt1, hbW⟩; have hS1 : NAt w1 gn (.int .i64 n) := HNA.out.keep hbB; have hm1 : Arr w1 (wA.heap.size + 2) 3 (4 * n) (iv fun _ => 0) := arr_pre (W := (((wA.alloc (.cells #[.int .i64 1] 3)).alloc (.cells #[.slice none 0 0, .slice none 0 0, .int .i64 0] 24)).alloc (.cells (cellsN (4 * n) fun _ => .int .i64 0) 3)).drew) (heap3_2 wA _ _ _) hbW; have hbx : BxAt w1 (wA.heap.size + 1) := bx_pre (W := (((wA.alloc (.cells #[.int .i64 1] 3)).alloc (.cells #[.slice none 0 0, .slice none 0 0, .int .i64 0] 24)).alloc (.cells (cellsN (4 * n) fun _ => .int .i64 0) 3)).drew) (heap3_1 wA _ _ _) hbW; have q0 := hbx.1.1; have q1 := hbx.1.2.1; have q2 := hbx.1.2.2.1; have f0 := hbx.2 0; have f1 := hbx.2 1; have f2 := hbx.2 2))
        | (go_at_call 42; ((with_reducible refine CRMBD.out.mono ?_); rintro e w1 ⟨rfl, hA1, hbB, hlt1, hbW⟩; have hS1 : NAt w1 gn (.int .i64 n) := HNA.out.keep hbB; have hm1 : Arr w1 (wA.heap.size) 3 (4 * n) (iv fun _ => 0) := arr_pre (W := (((wA.alloc (.cells (cellsN (4 * n) fun _ => .int .i64 0) 3)).alloc (.cells #[.int .i64 1] 3)).alloc (.cells #[.slice none 0 0, .slice none 0 0, .int .i64 0] 24)).drew) (heap3_0 wA _ _ _) hbW; have hbx : BxAt w1 (wA.heap.size + 2) := bx_pre (W := (((wA.alloc (.cells (cellsN (4 * n) fun _ => .int .i64 0) 3)).alloc (.cells #[.int .i64 1] 3)).alloc (.cells #[.slice none 0 0, .slice none 0 0, .int .i64 0] 24)).drew) (heap3_2 wA _ _ _) hbW; have q0 := hbx.1.1; have q1 := hbx.1.2.1; have q2 := hbx.1.2.2.1; have f0 := hbx.2 0; have f1 := hbx.2 1; have f2 := hbx.2 2))
        | (go_at_call 42; ((with_reducible refine CRMDB.out.mono ?_); rintro e w1 ⟨rfl, hA1, hbB, hlt1, hbW⟩; have hS1 : NAt w1 gn (.int .i64 n) := HNA.out.keep hbB; have hm1 : Arr w1 (wA.heap.size) 3 (4 * n) (iv fun _ => 0) := arr_pre (W := (((wA.alloc (.cells (cellsN (4 * n) fun _ => .int .i64 0) 3)).alloc (.cells #[.slice none 0 0, .slice none 0 0, .int .i64 0] 24)).alloc (.cells #[.int .i64 1] 3)).drew) (heap3_0 wA _ _ _) hbW; have hbx : BxAt w1 (wA.heap.size + 1) := bx_pre (W := (((wA.alloc (.cells (cellsN (4 * n) fun _ => .int .i64 0) 3)).alloc (.cells #[.slice none 0 0, .slice none 0 0, .int .i64 0] 24)).alloc (.cells #[.int .i64 1] 3)).drew) (heap3_1 wA _ _ _) hbW; have q0 := hbx.1.1; have q1 := hbx.1.2.1; have q2 := hbx.1.2.2.1; have f0 := hbx.2 0; have f1 := hbx.2 1; have f2 := hbx.2 2))
        | (go_at_call 42; ((with_reducible refine CRDBM.out.mono ?_); rintro e w1 ⟨rfl, hA1, hbB, hlt1, hbW⟩; have hS1 : NAt w1 gn (.int .i64 n) := HNA.out.keep hbB; have hm1 : Arr w1 (wA.heap.size + 2) 3 (4 * n) (iv fun _ => 0) := arr_pre (W := (((wA.alloc (.cells #[.slice none 0 0, .slice none 0 0, .int .i64 0] 24)).alloc (.cells #[.int .i64 1] 3)).alloc (.cells (cellsN (4 * n) fun _ => .int .i64 0) 3)).drew) (heap3_2 wA _ _ _) hbW; have hbx : BxAt w1 (wA.heap.size) := bx_pre (W := (((wA.alloc (.cells #[.slice none 0 0, .slice none 0 0, .int .i64 0] 24)).alloc (.cells #[.int .i64 1] 3)).alloc (.cells (cellsN (4 * n) fun _ => .int .i64 0) 3)).drew) (heap3_0 wA _ _ _) hbW; have q0 := hbx.1.1; have q1 := hbx.1.2.1; have q2 := hbx.1.2.2.1; have f0 := hbx.2 0; have f1 := hbx.2 1; have f2 := hbx.2 2))
        | (go_at_call 42; ((with_reducible refine CRDMB.out.mono ?_); rintro e w1 ⟨rfl, hA1, hbB, hlt1, hbW⟩; have hS1 : NAt w1 gn (.int .i64 n) := HNA.out.keep hbB; have hm1 : Arr w1 (wA.heap.size + 1) 3 (4 * n) (iv fun _ => 0) := arr_pre (W := (((wA.alloc (.cells #[.slice none 0 0, .slice none 0 0, .int .i64 0] 24)).alloc (.cells (cellsN (4 * n) fun _ => .int .i64 0) 3)).alloc (.cells #[.int .i64 1] 3)).drew) (heap3_1 wA _ _ _) hbW; have hbx : BxAt w1 (wA.heap.size) := bx_pre (W := (((wA.alloc (.cells #[.slice none 0 0, .slice none 0 0, .int .i64 0] 24)).alloc (.cells (cellsN (4 * n) fun _ => .int .i64 0) 3)).alloc (.cells #[.int .i64 1] 3)).drew) (heap3_0 wA _ _ _) hbW; have q0 := hbx.1.1; have q1 := hbx.1.2.1; have q2 := hbx.1.2.2.1; have f0 := hbx.2 0; have f1 := hbx.2 1; have f2 := hbx.2 2))
      )
    all_goals go_wp2_with fail
    all_goals go_meet
    all_goals first
      | (with_reducible refine fd_aft _ hA1 ?_ hbB; omega)
      | (with_reducible refine fd_mid _ hA1 ?_ hbB; omega)
      | (with_reducible refine fd_new _ hA1 hm1 ?_ ?_ ?_ hbB <;> omega)
      | (with_reducible refine fd_setm hbx hA1 ?_ ?_ ?_ hbB <;> omega)
      | (with_reducible refine fd_set hbx hA1 hm1 ?_ ?_ ?_ ?_ ?_ ?_ hbB <;> omega)
  case rest =>
    obtain ⟨gd, gS, gM, rfl, hd, hAS, hAM, l1, l2, l3, l4, l5, l6, hbX⟩ := hcut
    have hmf : ∀ (fn : Fn) (first cap : Array Value) (w : World), (Instr.makeFunc fn first cap).run Try.prog w = .ok (.func fn first cap) w := fun _ _ _ _ => rfl
    have hcf := enters_drawn
    have hS2 := HNA.out.keep hbX
    have hC2 := HGC.out.keep hbX
    have hR2 := HGR.out.kp hbX
    have hbd := hbX.size
    obtain ⟨x1, x2, x3, x4⟩ := HX.out
    have e1 : gn < wA.heap.size := x3
    have hb1 : Below wc.heap.size wc (wc.alloc (.cells #[.func (.func 43) #[] #[.pointer (some ⟨gn, 0, none⟩), .pointer (some ⟨gd, 0, none⟩), .pointer (some ⟨gc, 0, none⟩), .pointer (some ⟨wc.heap.size, 0, none⟩)]] 52)) := below_alloc _ _
    have hcfn : (wc.alloc (.cells #[.func (.func 43) #[] #[.pointer (some ⟨gn, 0, none⟩), .pointer (some ⟨gd, 0, none⟩), .pointer (some ⟨gc, 0, none⟩), .pointer (some ⟨wc.heap.size, 0, none⟩)]] 52)).cell? ⟨wc.heap.size, 0, none⟩ = some (.func (.func 43) #[] #[.pointer (some ⟨gn, 0, none⟩), .pointer (some ⟨gd, 0, none⟩), .pointer (some ⟨gc, 0, none⟩), .pointer (some ⟨wc.heap.size, 0, none⟩)]) := by rw [World.cell?_alloc_at _ _ _ _ rfl]; rfl
    have hds := hd.2.2.2
    have hsS := hAS.lt
    have hsM := hAM.lt
    have hscn : Scn gc gn gd wc.heap.size gS gM n n (4 * n) cc C wA code (wc.alloc (.cells #[.func (.func 43) #[] #[.pointer (some ⟨gn, 0, none⟩), .pointer (some ⟨gd, 0, none⟩), .pointer (some ⟨gc, 0, none⟩), .pointer (some ⟨wc.heap.size, 0, none⟩)]] 52)) (fun _ => 1) (fun _ => 0) :=
      ⟨below_step hbX hb1, HCA.out, (hS2.keep hb1).1, hd.keep hb1, (hC2.keep hb1).1, hcfn, hAS.keep hb1, hAM.keep hb1, by (simp; omega), ⟨l2, l3⟩, by omega⟩
    have hl1 : lstI 1 (fun _ => 1) = [1] := rfl
    have hpn : 1 + (n - 1) = n := by omega
    cases q : srch code (n - 1) [1] with
    | none =>
      have CD := drawn_any gc gn gd wc.heap.size gS gM n n (4 * n) cc C wA code h64 HI.out HV.out (n - 1) 1 (fun _ => 1) (fun _ => 0) _ false hpn (fun _ => by decide) hscn (by rw [hl1, q]; rfl)
      rw [hl1, q] at CD
      rw [show ((1 : Nat) : Int) = 1 from rfl] at CD
      have HCD := Lib.hid CD
      have HQ := Lib.hid q
      clear CD hscn q hl1 hpn hS2 hC2 hd hAS hAM hb1
      go_wp2_with ((with_reducible refine HCD.out.mono ?_); rintro e w2 ⟨S2, M2, rfl, h2, h3, h4, h5⟩; have hr2 := HGR.out.kp h2.hb; have r0 := hr2.1.1; have r1 := hr2.1.2.1; have r2 := hr2.1.2.2.1; have g0 := hr2.2 0; have g1 := hr2.2 1; have g2 := hr2.2 2)
      obtain ⟨k0, k1, k2⟩ := set3w_cells w2 gr (.slice none 0 0) (.slice none 0 0) (.int .i64 0) r0 r1 r2
      have HF := Lib.hid (show FirstPost code n w (srch code (n - 1) [1]) (.returned (.tuple #[dval none 0 0 none 0 0 0, .bool false])) (set3w w2 gr (.slice none 0 0) (.slice none 0 0) (.int .i64 0)) from ⟨set3w_below (HBw.out w2 h2.hb) (by omega) _ _ _, by rw [HQ.out]⟩)
      exact bodyPost_ret (v := .tuple #[dval none 0 0 none 0 0 0, .bool false]) (by simp [results, Try.results23, go_sem, k0, k1, k2]) rfl HF.out
    | some l =>
      have CD := drawn_any gc gn gd wc.heap.size gS gM n n (4 * n) cc C wA code h64 HI.out HV.out (n - 1) 1 (fun _ => 1) (fun _ => 0) _ true hpn (fun _ => by decide) hscn (by rw [hl1, q]; rfl)
      rw [hl1, q] at CD
      rw [show ((1 : Nat) : Int) = 1 from rfl] at CD
      have HCD := Lib.hid CD
      have HQ := Lib.hid q
      clear CD hscn q hl1 hpn hS2 hC2 hd hAS hAM hb1
      go_wp2_with ((with_reducible refine HCD.out.mono ?_); rintro e w2 ⟨S2, M2, rfl, h2, h3, h4, h5⟩; have hr2 := HGR.out.kp h2.hb; have r0 := hr2.1.1; have r1 := hr2.1.2.1; have r2 := hr2.1.2.2.1; have g0 := hr2.2 0; have g1 := hr2.2 1; have g2 := hr2.2 2; obtain ⟨d0, d1, d2, dl⟩ := h2.cd)
      obtain ⟨k0, k1, k2⟩ := set3w_cells w2 gr (.slice (some ⟨gS, 0, none⟩) n n) (.slice (some ⟨gM, 0, none⟩) (4 * n) (4 * n)) (.int .i64 0) r0 r1 r2
      obtain ⟨z1, z2⟩ := h5 l rfl
      have e1 : gS ≠ gr := by omega
      have e2 : gM ≠ gr := by omega
      have hS3 := ((h2.aS.far (p := ⟨gr, 0, none⟩) e1 (.slice (some ⟨gS, 0, none⟩) n n)).far (p := ⟨gr, 1, none⟩) e1 (.slice (some ⟨gM, 0, none⟩) (4 * n) (4 * n))).far (p := ⟨gr, 2, none⟩) e1 (.int .i64 0)
      have hM3 := ((h2.aM.far (p := ⟨gr, 0, none⟩) e2 (.slice (some ⟨gS, 0, none⟩) n n)).far (p := ⟨gr, 1, none⟩) e2 (.slice (some ⟨gM, 0, none⟩) (4 * n) (4 * n))).far (p := ⟨gr, 2, none⟩) e2 (.int .i64 0)
      have hS4 := ri_arr hS3
      have hM4 := rn_arr hM3
      rw [z1] at hS4
      rw [z2] at hM4
      have HF := Lib.hid (show FirstPost code n w (srch code (n - 1) [1]) (.returned (.tuple #[dval (some ⟨gS, 0, none⟩) n n (some ⟨gM, 0, none⟩) (4 * n) (4 * n) 0, .bool true])) (set3w w2 gr (.slice (some ⟨gS, 0, none⟩) n n) (.slice (some ⟨gM, 0, none⟩) (4 * n) (4 * n)) (.int .i64 0)) from ⟨set3w_below (HBw.out w2 h2.hb) (by omega) _ _ _, by rw [HQ.out]; exact ⟨gS, gM, rfl, hS4, hM4, by omega, by omega⟩⟩)
      exact bodyPost_ret (v := .tuple #[dval (some ⟨gS, 0, none⟩) n n (some ⟨gM, 0, none⟩) (4 * n) (4 * n) 0, .bool true]) (by simp [results, Try.results23, go_sem, k0, k1, k2]) rfl HF.out

end Go.Proofs.Ytebliaclleplgaa

/- Walk: dowker.Diagram and dowker.Signs. -/
namespace Go.Proofs.Ytebliaclleplgaa
open Go.RowKit

/-- The error, the signs and the mates of the diagram of a code. -/
def dgS (code : List Int) : Option (List Int) := srch code (code.length - 1) [1]
def dgE (code : List Int) : Int := if dvB code = false then 3 else if 14 < code.length then 5 else match dgS code with
  | none => 7
  | some _ => 0
def dgL (code : List Int) : List Int := if dvB code = false then [] else if 14 < code.length then [] else match dgS code with
  | none => []
  | some l => l
def dgM (code : List Int) : List Int := if dvB code = false then [] else if 14 < code.length then [] else match dgS code with
  | none => []
  | some l => mkM code l
def DgPost (code : List Int) (w : World) (e : Ending) (w' : World) : Prop :=
  ∃ A ns cs B nm cm, e = .returned (.tuple #[dval A ns cs B nm cm 0, .int .i64 (dgE code)]) ∧ RI w' A ns (dgL code) ∧ RI w' B nm (dgM code) ∧ Below w.heap.size w w'
def SgPost (code : List Int) (w : World) (e : Ending) (w' : World) : Prop :=
  ∃ A ns cs, e = .returned (.tuple #[.slice A ns cs, .int .i64 (dgE code)]) ∧ RI w' A ns (dgL code) ∧ Below w.heap.size w w'

theorem bx_new (w : World) : BxAt (w.alloc (.cells #[.slice none 0 0, .slice none 0 0, .int .i64 0] 24)) w.heap.size := bx_pre (heap_alloc_new w _) (Below.refl _ _)
theorem set3w_bx {w : World} {g : Nat} (h : BxAt w g) (a b c : Value) : (set3w w g a b c).cell? ⟨g, 0, none⟩ = some a ∧ (set3w w g a b c).cell? ⟨g, 1, none⟩ = some b ∧ (set3w w g a b c).cell? ⟨g, 2, none⟩ = some c := set3w_cells w g a b c h.1.1 h.1.2.1 h.1.2.2.1
theorem RI.set3w {w : World} {A : Option Addr} {n g : Nat} {xs : List Int} (h : RI w A n xs) (hg : ∀ b, b < w.heap.size → (∃ o, A = some ⟨b, o, none⟩) → b ≠ g) (x y z : Value) : RI (Go.Proofs.Ytebliaclleplgaa.set3w w g x y z) A n xs := by
  refine ⟨h.1, fun hn => ?_⟩
  obtain ⟨b, off, rfl, hb, hc⟩ := h.2 hn
  have := hg b hb ⟨off, rfl⟩
  exact ⟨b, off, rfl, by simp [World.setCell]; exact hb, fun j hj => by
    rw [World.cell?_setCell_other _ _ _ _ (by simp <;> omega), World.cell?_setCell_other _ _ _ _ (by simp <;> omega), World.cell?_setCell_other _ _ _ _ (by simp <;> omega)]; exact hc j hj⟩

set_option maxHeartbeats 3200000 in
set_option maxRecDepth 100000 in
theorem diagram_any (C : Option Addr) (n cc : Nat) (code : List Int) (w : World) (hC : RI w C n code) (hn : n ≤ 9223372036854775807) (hI : inL code) :
    Calls Try.prog 9 #[.slice C n cc] w (DgPost code w) := by
  have hl := hC.1
  have hb0 := below_alloc w (.cells #[.slice none 0 0, .slice none 0 0, .int .i64 0] 24)
  have hx0 := bx_new w
  have hg : w.heap.size < (w.alloc (.cells #[.slice none 0 0, .slice none 0 0, .int .i64 0] 24)).heap.size := by simp
  have HC := Lib.hid (hC.keep hb0)
  have HI := Lib.hid hI
  cases hv : dvB code with
  | false =>
    have CV := Lib.hid (dvalid_r false C n cc code (w.alloc (.cells #[.slice none 0 0, .slice none 0 0, .int .i64 0] 24)) HC.out hn HI.out hv.symm)
    have HE : Hid (dgE code = 3 ∧ dgL code = [] ∧ dgM code = []) := Lib.hid (by simp [dgE, dgL, dgM, hv])
    have HX := Lib.hid hx0
    clear hC hI hv hl hx0
    go_enter Try.func9, Try.ntmps9
    go_wp2_with (go_at_call 13; ((with_reducible refine CV.out.mono ?_); rintro e w1 ⟨rfl, hb1⟩; have hx1 := HX.out.kp hb1; have r0 := hx1.1.1; have r1 := hx1.1.2.1; have r2 := hx1.1.2.2.1; have g0 := hx1.2 0; have g1 := hx1.2 1; have g2 := hx1.2 2))
    obtain ⟨k0, k1, k2⟩ := set3w_bx hx1 (.slice none 0 0) (.slice none 0 0) (.int .i64 0)
    obtain ⟨z1, z2, z3⟩ := HE.out
    have HF := Lib.hid (show DgPost code w (.returned (.tuple #[dval none 0 0 none 0 0 0, .int .i64 3])) (set3w w1 w.heap.size (.slice none 0 0) (.slice none 0 0) (.int .i64 0)) from ⟨none, 0, 0, none, 0, 0, by rw [z1], by rw [z2]; exact RI.nil _ _, by rw [z3]; exact RI.nil _ _, set3w_below (below_step hb0 hb1) (Nat.le_refl _) _ _ _⟩)
    exact bodyPost_ret (v := .tuple #[dval none 0 0 none 0 0 0, .int .i64 3]) (by simp [results, Try.results9, go_sem, k0, k1, k2]) rfl HF.out
  | true =>
    have hn64 : n ≤ 64 := by have := (dvB_iff code).1 hv; omega
    have CV := Lib.hid (dvalid_r true C n cc code (w.alloc (.cells #[.slice none 0 0, .slice none 0 0, .int .i64 0] 24)) HC.out hn HI.out hv.symm)
    have HX := Lib.hid hx0
    by_cases h14 : 14 < n
    · have HE : Hid (dgE code = 5 ∧ dgL code = [] ∧ dgM code = []) := Lib.hid (by simp [dgE, dgL, dgM, hv, hl, h14])
      have h14' : 14 < (n : Int) := by omega
      clear hC hI hv hl hx0
      go_enter Try.func9, Try.ntmps9
      go_wp2_with (go_at_call 13; ((with_reducible refine CV.out.mono ?_); rintro e w1 ⟨rfl, hb1⟩; have hx1 := HX.out.kp hb1; have r0 := hx1.1.1; have r1 := hx1.1.2.1; have r2 := hx1.1.2.2.1; have g0 := hx1.2 0; have g1 := hx1.2 1; have g2 := hx1.2 2))
      obtain ⟨k0, k1, k2⟩ := set3w_bx hx1 (.slice none 0 0) (.slice none 0 0) (.int .i64 0)
      obtain ⟨z1, z2, z3⟩ := HE.out
      have HF := Lib.hid (show DgPost code w (.returned (.tuple #[dval none 0 0 none 0 0 0, .int .i64 5])) (set3w w1 w.heap.size (.slice none 0 0) (.slice none 0 0) (.int .i64 0)) from ⟨none, 0, 0, none, 0, 0, by rw [z1], by rw [z2]; exact RI.nil _ _, by rw [z3]; exact RI.nil _ _, set3w_below (below_step hb0 hb1) (Nat.le_refl _) _ _ _⟩)
      exact bodyPost_ret (v := .tuple #[dval none 0 0 none 0 0 0, .int .i64 5]) (by simp [results, Try.results9, go_sem, k0, k1, k2]) rfl HF.out
    · have h14' : ¬ 14 < (n : Int) := by omega
      have CF : ∀ W, Below (w.alloc (.cells #[.slice none 0 0, .slice none 0 0, .int .i64 0] 24)).heap.size (w.alloc (.cells #[.slice none 0 0, .slice none 0 0, .int .i64 0] 24)) W → Hid (Calls Try.prog 23 #[.slice C n cc] W (FirstPost code n W (dgS code))) := fun W hb => by
        have := first_any C n cc code W (HC.out.keep hb) hn64 HI.out hv
        unfold dgS; rw [hl]; exact this
      cases hq : dgS code with
      | none =>
        have HE : Hid (dgE code = 7 ∧ dgL code = [] ∧ dgM code = []) := Lib.hid (by simp [dgE, dgL, dgM, hv, hl, h14, hq])
        simp only [hq] at CF
        clear hC hI hv hl hx0 hq
        go_enter Try.func9, Try.ntmps9
        go_wp2_with (first
          | (go_at_call 13; ((with_reducible refine CV.out.mono ?_); rintro e w1 ⟨rfl, hb1⟩; have hx1 := HX.out.kp hb1))
          | (go_at_call 23; ((with_reducible refine (CF _ hb1).out.mono ?_); rintro e w2 ⟨hb2, rfl⟩; have hx2 := (hx1.kp hb2).al (.cells #[.slice none 0 0, .slice none 0 0, .int .i64 0] 24); have r0 := hx2.1.1; have r1 := hx2.1.2.1; have r2 := hx2.1.2.2.1; have g0 := hx2.2 0; have g1 := hx2.2 1; have g2 := hx2.2 2)))
        obtain ⟨k0, k1, k2⟩ := set3w_bx hx2 (.slice none 0 0) (.slice none 0 0) (.int .i64 0)
        obtain ⟨z1, z2, z3⟩ := HE.out
        have hb3 := below_step (below_step (below_step hb0 hb1) hb2) (below_alloc w2 (.cells #[.slice none 0 0, .slice none 0 0, .int .i64 0] 24))
        have HF := Lib.hid (show DgPost code w (.returned (.tuple #[dval none 0 0 none 0 0 0, .int .i64 7])) (set3w (w2.alloc (.cells #[.slice none 0 0, .slice none 0 0, .int .i64 0] 24)) w.heap.size (.slice none 0 0) (.slice none 0 0) (.int .i64 0)) from ⟨none, 0, 0, none, 0, 0, by rw [z1], by rw [z2]; exact RI.nil _ _, by rw [z3]; exact RI.nil _ _, set3w_below hb3 (Nat.le_refl _) _ _ _⟩)
        exact bodyPost_ret (v := .tuple #[dval none 0 0 none 0 0 0, .int .i64 7]) (by simp [results, Try.results9, go_sem, k0, k1, k2]) rfl HF.out
      | some l =>
        have HE : Hid (dgE code = 0 ∧ dgL code = l ∧ dgM code = mkM code l) := Lib.hid (by simp [dgE, dgL, dgM, hv, hl, h14, hq])
        simp only [hq] at CF
        clear hC hI hv hl hx0 hq
        go_enter Try.func9, Try.ntmps9
        go_wp2_with (first
          | (go_at_call 13; ((with_reducible refine CV.out.mono ?_); rintro e w1 ⟨rfl, hb1⟩; have hx1 := HX.out.kp hb1))
          | (go_at_call 23; ((with_reducible refine (CF _ hb1).out.mono ?_); rintro e w2 ⟨hb2, gS, gM, rfl, hS, hM, hgS, hgM⟩; have hx2 := (hx1.kp hb2).al (.cells #[.slice (some ⟨gS, 0, none⟩) n n, .slice (some ⟨gM, 0, none⟩) (4 * n) (4 * n), .int .i64 0] 24); have r0 := hx2.1.1; have r1 := hx2.1.2.1; have r2 := hx2.1.2.2.1; have g0 := hx2.2 0; have g1 := hx2.2 1; have g2 := hx2.2 2)))
        obtain ⟨k0, k1, k2⟩ := set3w_bx hx2 (.slice (some ⟨gS, 0, none⟩) n n) (.slice (some ⟨gM, 0, none⟩) (4 * n) (4 * n)) (.int .i64 0)
        obtain ⟨z1, z2, z3⟩ := HE.out
        have hsz := hb1.size
        have hb3 := below_step (below_step (below_step hb0 hb1) hb2) (below_alloc w2 (.cells #[.slice (some ⟨gS, 0, none⟩) n n, .slice (some ⟨gM, 0, none⟩) (4 * n) (4 * n), .int .i64 0] 24))
        have hS3 := (hS.alloc (.cells #[.slice (some ⟨gS, 0, none⟩) n n, .slice (some ⟨gM, 0, none⟩) (4 * n) (4 * n), .int .i64 0] 24)).set3w (g := w.heap.size) (fun b _ ⟨o, e⟩ => by injection e with e; injection e with e1; omega) (.slice (some ⟨gS, 0, none⟩) n n) (.slice (some ⟨gM, 0, none⟩) (4 * n) (4 * n)) (.int .i64 0)
        have hM3 := (hM.alloc (.cells #[.slice (some ⟨gS, 0, none⟩) n n, .slice (some ⟨gM, 0, none⟩) (4 * n) (4 * n), .int .i64 0] 24)).set3w (g := w.heap.size) (fun b _ ⟨o, e⟩ => by injection e with e; injection e with e1; omega) (.slice (some ⟨gS, 0, none⟩) n n) (.slice (some ⟨gM, 0, none⟩) (4 * n) (4 * n)) (.int .i64 0)
        have HF := Lib.hid (show DgPost code w (.returned (.tuple #[dval (some ⟨gS, 0, none⟩) n n (some ⟨gM, 0, none⟩) (4 * n) (4 * n) 0, .int .i64 0])) (set3w (w2.alloc (.cells #[.slice (some ⟨gS, 0, none⟩) n n, .slice (some ⟨gM, 0, none⟩) (4 * n) (4 * n), .int .i64 0] 24)) w.heap.size (.slice (some ⟨gS, 0, none⟩) n n) (.slice (some ⟨gM, 0, none⟩) (4 * n) (4 * n)) (.int .i64 0)) from ⟨_, n, n, _, 4 * n, 4 * n, by rw [z1], by rw [z2]; exact hS3, by rw [z3]; exact hM3, set3w_below hb3 (Nat.le_refl _) _ _ _⟩)
        exact bodyPost_ret (v := .tuple #[dval (some ⟨gS, 0, none⟩) n n (some ⟨gM, 0, none⟩) (4 * n) (4 * n) 0, .int .i64 0]) (by simp [results, Try.results9, go_sem, k0, k1, k2]) rfl HF.out

set_option maxHeartbeats 1600000 in
theorem dsigns_any (C : Option Addr) (n cc : Nat) (code : List Int) (w : World) (hC : RI w C n code) (hn : n ≤ 9223372036854775807) (hI : inL code) :
    Calls Try.prog 15 #[.slice C n cc] w (SgPost code w) := by
  have CD := Lib.hid (diagram_any C n cc code w hC hn hI)
  clear hC hn hI
  go_enter Try.func15, Try.ntmps15
  go_wp2_with (go_at_call 9; ((with_reducible refine CD.out.mono ?_); rintro e w1 ⟨A, ns, cs, B, nm, cm, rfl, h1, h2, hb1⟩))
  go_ret2
  exact ⟨A, ns, cs, rfl, h1.alloc _, below_step hb1 (below_alloc _ _)⟩

end Go.Proofs.Ytebliaclleplgaa

/- Plain mathematics: whether a code can be drawn does not depend on which strands pass over; the signs stay if all numbers change theirs. -/
namespace Go.Proofs.Ytebliaclleplgaa
open Go.RowKit

theorem sg_cons {v : Int} {q : List Int} : sgnsB (v :: q) = true ↔ (v = 1 ∨ v = -1) ∧ sgnsB q = true := by
  unfold sgnsB sgB; simp [List.all_cons]
theorem srch_none {code : List Int} (k : Nat) : ∀ p : List Int, srch code k p = none ↔ ∀ q : List Int, q.length = k → sgnsB q = true → validB (p ++ q) (mkM code (p ++ q)) 0 = false := by
  induction k with
  | zero =>
    intro p
    have h : srch code 0 p = if validB p (mkM code p) 0 = true then some p else none := rfl
    rw [h]
    constructor
    · intro a q hq _
      obtain rfl : q = [] := List.length_eq_zero_iff.1 hq
      rw [List.append_nil]
      cases e : validB p (mkM code p) 0 with
      | false => rfl
      | true => rw [e] at a; simp at a
    · intro a
      have := a [] rfl rfl
      rw [List.append_nil] at this
      rw [this]; simp
  | succ k ih =>
    intro p
    have h : srch code (k + 1) p = match srch code k (p ++ [1]) with
      | some l => some l
      | none => srch code k (p ++ [-1]) := rfl
    have e : srch code (k + 1) p = none ↔ srch code k (p ++ [1]) = none ∧ srch code k (p ++ [-1]) = none := by
      rw [h]
      cases srch code k (p ++ [1]) <;> simp
    rw [e, ih, ih]
    constructor
    · rintro ⟨a, b⟩ q hq hs
      match q, hq, hs with
      | v :: q, hq, hs =>
        obtain ⟨hv, hq2⟩ := sg_cons.1 hs
        have hl : q.length = k := by simpa using hq
        rcases hv with rfl | rfl
        · have := a q hl hq2; rwa [List.append_assoc] at this
        · have := b q hl hq2; rwa [List.append_assoc] at this
    · intro a
      refine ⟨fun q hq hs => ?_, fun q hq hs => ?_⟩
      · have := a (1 :: q) (by simp [hq]) (sg_cons.2 ⟨.inl rfl, hs⟩)
        rwa [List.append_assoc]
      · have := a (-1 :: q) (by simp [hq]) (sg_cons.2 ⟨.inr rfl, hs⟩)
        rwa [List.append_assoc]
theorem dgS_none {code : List Int} {n : Nat} (h : dvB code = true) (hn : code.length = n) : dgS code = none ↔ ∀ l : List Int, l.length = n → sgnsB l = true → validB l (mkM code l) 0 = false := by
  have hpos : 1 ≤ n := by have := ((dvB_iff code).1 h).1; omega
  unfold dgS
  rw [hn, srch_none]
  constructor
  · intro a l hl hs
    match l, hl, hs with
    | [], hl, _ => simp at hl; omega
    | v :: q, hl, hs =>
      obtain ⟨hv, hq⟩ := sg_cons.1 hs
      have hql : q.length = n - 1 := by simp at hl; omega
      rcases hv with rfl | rfl
      · exact a q hql hq
      · have e : negL (-1 :: q) = [1] ++ negL q := by simp [negL]
        rw [← valid_neg h hn hs hl, e]
        exact a (negL q) (by rw [negL_length, hql]) (sg_neg hq)
  · intro a q hq hs
    exact a ([1] ++ q) (by simp; omega) (sg_cons.2 ⟨.inl rfl, hs⟩)
theorem flS_flS (P : Nat → Bool) (s : List Int) : flS P (flS P s) = s := by
  refine List.ext_getElem (by rw [flS_length, flS_length]) fun i h1 h2 => ?_
  have e1 := flS_get P (s := flS P s) (i := i) (by rw [flS_length]; exact h2)
  rw [flS_get P h2] at e1
  have e2 : (flS P (flS P s)).getD i 0 = (flS P (flS P s))[i] := by simp [List.getD, h1]
  have e3 : s.getD i 0 = s[i] := by simp [List.getD, h2]
  rw [← e2, e1, ← e3]
  split <;> simp
section
variable {P : Nat → Bool} {code code' : List Int}
theorem Flip.none (f : Flip P code code') (h : dvB code = true) : dgS code' = none ↔ dgS code = none := by
  rw [dgS_none (f.dv h) f.len, dgS_none h rfl]
  constructor
  · intro a l hl hs
    rw [← f.valid h rfl hs hl]
    exact a _ (by rw [flS_length, hl]) (sg_flS P hs)
  · intro a l hl hs
    have := f.valid h rfl (sg_flS P hs) (by rw [flS_length, hl])
    rw [flS_flS] at this
    rw [this]
    exact a _ (by rw [flS_length, hl]) (sg_flS P hs)
theorem Flip.dgE (f : Flip P code code') (h : dvB code = true) : Go.Proofs.Ytebliaclleplgaa.dgE code' = Go.Proofs.Ytebliaclleplgaa.dgE code := by
  unfold Go.Proofs.Ytebliaclleplgaa.dgE
  rw [f.dv h, h, f.len]
  have := f.none h
  split
  · rfl
  · split
    · rfl
    · cases e : dgS code with
      | none => rw [this.2 e]
      | some l =>
        cases e' : dgS code' with
        | none => rw [this.1 e'] at e; cases e
        | some l' => rfl
end
theorem srch_same {code code' : List Int} {n : Nat} (hv : ∀ l : List Int, l.length = n → sgnsB l = true → validB l (mkM code' l) 0 = validB l (mkM code l) 0) (k : Nat) : ∀ p : List Int, p.length + k = n → sgnsB p = true → srch code' k p = srch code k p := by
  induction k with
  | zero =>
    intro p hp hs
    show (if validB p (mkM code' p) 0 = true then some p else none) = (if validB p (mkM code p) 0 = true then some p else none)
    rw [hv p (by omega) hs]
  | succ k ih =>
    intro p hp hs
    have ha : ∀ v : Int, v = 1 ∨ v = -1 → sgnsB (p ++ [v]) = true := fun v hv => by
      unfold sgnsB at hs ⊢
      rw [List.all_append, hs]
      rcases hv with rfl | rfl <;> rfl
    show (match srch code' k (p ++ [1]) with | some l => some l | none => srch code' k (p ++ [-1])) = (match srch code k (p ++ [1]) with | some l => some l | none => srch code k (p ++ [-1]))
    rw [ih (p ++ [1]) (by simp; omega) (ha 1 (.inl rfl)), ih (p ++ [-1]) (by simp; omega) (ha (-1) (.inr rfl))]
theorem flS_all (s : List Int) : flS (fun _ => true) s = negL s := by
  refine List.ext_getElem (by rw [flS_length, negL_length]) fun i h1 h2 => ?_
  have h3 : i < s.length := by rw [negL_length] at h2; exact h2
  simp [flS, negL, h3]
theorem all_dgS {code code' : List Int} (f : Flip (fun _ => true) code code') (h : dvB code = true) : dgS code' = dgS code := by
  have hpos := ((dvB_iff code).1 h).1
  unfold dgS
  rw [f.len]
  refine srch_same (n := code.length) (fun l hl hs => ?_) (code.length - 1) [1] (by simp; omega) rfl
  have h1 := f.valid h rfl (sg_neg hs) (by rw [negL_length, hl])
  rw [flS_all, negL_neg] at h1
  rw [h1, valid_neg h rfl hs hl]
theorem all_dgL {code code' : List Int} (f : Flip (fun _ => true) code code') (h : dvB code = true) : dgL code' = dgL code := by
  unfold dgL; rw [f.dv h, h, f.len, all_dgS f h]

end Go.Proofs.Ytebliaclleplgaa

/- Plain mathematics: all lists of signs in order; the first valid one. -/
namespace Go.Proofs.Ytebliaclleplgaa
open Go.RowKit

def bitL (n b : Nat) : List Int := (List.range n).map fun i => if b / 2 ^ (n - 1 - i) % 2 = 0 then 1 else -1
def dkV (code l : List Int) : Bool := validB l (mkM code l) 0
def allK (code : List Int) (n k : Nat) : List (List Int) := ((List.range k).map (bitL n)).filter (dkV code)
def allL : Nat → List Int → List (List Int)
  | 0, p => [p]
  | k + 1, p => allL k (p ++ [1]) ++ allL k (p ++ [-1])
theorem bitL_length (n b : Nat) : (bitL n b).length = n := by simp [bitL]
theorem bitL_sg (n b : Nat) : sgnsB (bitL n b) = true := by
  unfold sgnsB
  rw [List.all_eq_true]
  intro x hx
  obtain ⟨i, _, rfl⟩ := List.mem_map.1 hx
  split <;> rfl
theorem allK_succ (code : List Int) (n k : Nat) : allK code n (k + 1) = allK code n k ++ if dkV code (bitL n k) = true then [bitL n k] else [] := by
  unfold allK
  rw [List.range_succ, List.map_append, List.filter_append]
  cases h : dkV code (bitL n k) <;> simp [h]
theorem allK_le (code : List Int) (n k : Nat) : (allK code n k).length ≤ k := by
  unfold allK; exact Nat.le_trans (List.length_filter_le _ _) (by simp)
theorem bitL_lo {k b : Nat} (h : b < 2 ^ k) : bitL (k + 1) b = 1 :: bitL k b := by
  unfold bitL
  rw [List.range_succ_eq_map, List.map_cons, List.map_map]
  congr 1
  · rw [show k + 1 - 1 - 0 = k by omega, Nat.div_eq_of_lt h]; rfl
  · refine List.map_congr_left fun i hi => ?_
    show (if b / 2 ^ (k + 1 - 1 - (i + 1)) % 2 = 0 then (1 : Int) else -1) = _
    rw [show k + 1 - 1 - (i + 1) = k - 1 - i by omega]
theorem bitL_hi {k b : Nat} (h : b < 2 ^ k) : bitL (k + 1) (2 ^ k + b) = -1 :: bitL k b := by
  unfold bitL
  rw [List.range_succ_eq_map, List.map_cons, List.map_map]
  congr 1
  · rw [show k + 1 - 1 - 0 = k by omega, Nat.add_div_left _ (Nat.two_pow_pos k), Nat.div_eq_of_lt h]; rfl
  · refine List.map_congr_left fun i hi => ?_
    have hik : i < k := by simpa using hi
    show (if (2 ^ k + b) / 2 ^ (k + 1 - 1 - (i + 1)) % 2 = 0 then (1 : Int) else -1) = _
    rw [show k + 1 - 1 - (i + 1) = k - 1 - i by omega]
    have e : 2 ^ k = 2 ^ (k - 1 - i) * (2 * 2 ^ i) := by
      rw [← Nat.mul_assoc, Nat.mul_right_comm, ← Nat.pow_add, ← Nat.pow_succ]
      congr 1; omega
    rw [e, Nat.mul_add_div (Nat.two_pow_pos _), Nat.mul_add_mod]
theorem allL_bits (k : Nat) : ∀ p : List Int, allL k p = (List.range (2 ^ k)).map fun b => p ++ bitL k b := by
  induction k with
  | zero => intro p; simp [allL, bitL]
  | succ k ih =>
    intro p
    show allL k (p ++ [1]) ++ allL k (p ++ [-1]) = _
    rw [ih, ih, show 2 ^ (k + 1) = 2 ^ k + 2 ^ k by rw [Nat.pow_succ]; omega, List.range_add, List.map_append, List.map_map]
    congr 1
    · refine List.map_congr_left fun b hb => ?_
      rw [bitL_lo (by simpa using hb), List.append_assoc]; rfl
    · refine List.map_congr_left fun b hb => ?_
      show _ = p ++ bitL (k + 1) (2 ^ k + b)
      rw [bitL_hi (by simpa using hb), List.append_assoc]; rfl
theorem srch_head (code : List Int) (k : Nat) : ∀ p : List Int, srch code k p = ((allL k p).filter (dkV code)).head? := by
  induction k with
  | zero =>
    intro p
    show (if dkV code p = true then some p else none) = _
    unfold allL
    cases h : dkV code p with
    | true => simp [h]
    | false => rw [if_neg (by decide)]; simp [h]
  | succ k ih =>
    intro p
    show (match srch code k (p ++ [1]) with | some l => some l | none => srch code k (p ++ [-1])) = ((allL k (p ++ [1]) ++ allL k (p ++ [-1])).filter (dkV code)).head?
    rw [ih, ih, List.filter_append, List.head?_append]
    cases ((allL k (p ++ [1])).filter (dkV code)).head? <;> rfl
/-- The first of all lists of signs with which a valid code can be drawn. -/
theorem allK_head {code : List Int} {n : Nat} (h : dvB code = true) (hn : code.length = n) : (allK code n (2 ^ n)).head? = dgS code := by
  have hpos : 1 ≤ n := by have := ((dvB_iff code).1 h).1; omega
  have e : allK code n (2 ^ n) = (allL n []).filter (dkV code) := by
    unfold allK; rw [allL_bits]; simp
  obtain ⟨k, rfl⟩ : ∃ k, n = k + 1 := ⟨n - 1, by omega⟩
  have e2 : dgS code = srch code k [1] := by unfold dgS; rw [hn]; rfl
  rw [e, e2]
  show ((allL k ([] ++ [1]) ++ allL k ([] ++ [-1])).filter (dkV code)).head? = _
  rw [List.filter_append, List.head?_append, ← srch_head, ← srch_head]
  show (srch code k [1]).or (srch code k [-1]) = srch code k [1]
  cases q : srch code k [1] with
  | some l => rfl
  | none =>
    have hnone := (dgS_none h hn).1 (by rw [e2]; exact q)
    have : srch code k [-1] = none := (srch_none k [-1]).2 fun l hl hs => hnone ([-1] ++ l) (by simp; omega) (sg_cons.2 ⟨.inr rfl, hs⟩)
    rw [this]; rfl

end Go.Proofs.Ytebliaclleplgaa

/- Plain: if just two lists of signs are possible, they are the first one and its negative. -/
namespace Go.Proofs.Ytebliaclleplgaa

theorem mem_allL : ∀ (k : Nat) (p l : List Int), l.length = k → sgnsB l = true → p ++ l ∈ allL k p
  | 0, p, l, hl, _ => by
    obtain rfl : l = [] := List.eq_nil_of_length_eq_zero hl
    simp [allL]
  | k + 1, p, [], hl, _ => by simp at hl
  | k + 1, p, x :: r, hl, hs => by
    have hx : x = 1 ∨ x = -1 := by
      have := sg_cases hs (i := 0) (by simp)
      simpa using this
    have hr : sgnsB r = true := by
      unfold sgnsB at hs ⊢
      rw [List.all_cons, Bool.and_eq_true] at hs
      exact hs.2
    have ih := mem_allL k (p ++ [x]) r (by simpa using hl) hr
    rw [List.append_assoc, List.singleton_append] at ih
    unfold allL
    rcases hx with e | e
    · rw [e] at ih ⊢; exact List.mem_append.2 (.inl ih)
    · rw [e] at ih ⊢; exact List.mem_append.2 (.inr ih)
theorem mem_allK {code l : List Int} {n : Nat} (hl : l.length = n) (hs : sgnsB l = true) (hv : validB l (mkM code l) 0 = true) : l ∈ allK code n (2 ^ n) := by
  have e : allK code n (2 ^ n) = (allL n []).filter (dkV code) := by
    unfold allK; rw [allL_bits]; simp
  rw [e]
  exact List.mem_filter.2 ⟨by have := mem_allL n [] l hl hs; simpa using this, hv⟩
theorem two_of {α : Type} {L : List α} {a b c : α} (h2 : L.length = 2) (ha : a ∈ L) (hb : b ∈ L) (hc : c ∈ L) (hab : a ≠ b) : c = a ∨ c = b := by
  match L, h2 with
  | [x, y], _ =>
    simp only [List.mem_cons, List.not_mem_nil, or_false] at ha hb hc
    rcases ha with rfl | rfl <;> rcases hb with rfl | rfl <;> rcases hc with rfl | rfl <;> simp_all
/-- The signs of the diagram are the first possible ones, or their negatives. -/
theorem back_two {code l t : List Int} {n : Nat} (h : dvB code = true) (hn : code.length = n) (h2 : (allK code n (2 ^ n)).length = 2) (hl : l.length = n) (hls : sgnsB l = true) (hlv : validB l (mkM code l) 0 = true) (ht : t.length = n) (hts : sgnsB t = true) (htv : validB t (mkM code t) 0 = true) : t = l ∨ t = negL l := by
  have hpos : 1 ≤ n := by have := ((dvB_iff code).1 h).1; omega
  have hv2 : validB (negL l) (mkM code (negL l)) 0 = true := by rw [valid_neg h hn hls hl]; exact hlv
  refine two_of h2 (mem_allK hl hls hlv) (mem_allK (by rw [negL_length, hl]) (sg_neg hls) hv2) (mem_allK ht hts htv) (fun e => ?_)
  have h0 := congrArg (fun x : List Int => x.getD 0 0) e
  simp only [negL_get] at h0
  rcases sg_cases hls (i := 0) (by omega) with q | q <;> rw [q] at h0 <;> omega

end Go.Proofs.Ytebliaclleplgaa
