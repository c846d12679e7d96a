import Derived.Test.YtdacjnmfmhkpiaaGreatDoorD21
import Derived.Test.YtdacjnmfmhkpiaaGreatDoorD17
/- Walk: the reference's Diagram of a code. -/
namespace Go.Proofs.YtdacjnmfmhkpiaaGreatDoor
open Go.RowKit

theorem heap_three0 (w : World) (a b c : Obj) : (((w.alloc a).alloc b).alloc c).heap[w.heap.size]? = some a := (Below.heap_alloc ((w.alloc a).alloc b) c w.heap.size (by simp <;> omega)).trans (heap_two0 w a b)
theorem heap_three1 (w : World) (a b c : Obj) : (((w.alloc a).alloc b).alloc c).heap[w.heap.size + 1]? = some b := (Below.heap_alloc ((w.alloc a).alloc b) c (w.heap.size + 1) (by simp)).trans (heap_two1 w a b)
theorem heap_three2 (w : World) (a b c : Obj) : (((w.alloc a).alloc b).alloc c).heap[w.heap.size + 2]? = some c := by
  have := heap_alloc_new ((w.alloc a).alloc b) c
  simpa using this
theorem pre_b1 (w : World) (a : Obj) : Below w.heap.size w (w.alloc a).drew := (below_alloc w a).drew
theorem pre_b2 (w : World) (a b : Obj) : Below w.heap.size w ((w.alloc a).alloc b).drew := (below_step (below_alloc w a) (below_alloc _ b)).drew
theorem pre_b3 (w : World) (a b c : Obj) : Below w.heap.size w (((w.alloc a).alloc b).alloc c).drew := (below_step (below_step (below_alloc w a) (below_alloc _ b)) (below_alloc _ c)).drew
theorem pre_below {wA W w1 : World} {g : Nat} (hg1 : W.grownBy w1 (some g)) (hb : Below wA.heap.size wA W) (hg : wA.heap.size ≤ g) : Below wA.heap.size wA w1 := hb.grown hg1 hb.size (fun k e => by injection e with e; omega)
theorem pre_arr {W w1 : World} {g j n : Nat} (hh : W.heap[j]? = some (.cells (cellsN n fun _ => .int .i64 0) 3 (0, 0))) (hg : W.grownBy w1 (some g)) (hne : j ≠ g) : Arr w1 j 3 n (iv fun _ => 0) :=
  (Arr.grown (V := fun _ => .int .i64 0) hh hg (fun e => by injection e with e; exact hne e.symm)).congr fun _ _ => rfl
theorem pre_box {W w1 : World} {g j : Nat} {t : TypeId} (hh : W.heap[j]? = some (.cells #[.slice none 0 0, .slice none 0 0, .int .i64 0] t (0, 0))) (hg : W.grownBy w1 (some g)) (hne : j ≠ g) : BoxAt w1 j := by
  have hl := (Array.getElem?_eq_some_iff.1 hh).1
  refine BoxAt.grown (w := W) ⟨⟨?_, ?_, ?_, hl⟩, fun i => frozen_of_row W j i _ t hh⟩ hg hne <;> (simp [World.cell?, hh])
theorem pre_ne {k g j z : Nat} (h : k = g ∨ k = z) (h1 : j ≠ g) (h2 : j < z) : k ≠ j := by omega
/-- Two cells of a block that stay as they are. -/
def SAt (W : World) (h : Nat) (u v : Value) : Prop := (W.cell? ⟨h, 1, none⟩ = some u ∧ W.cell? ⟨h, 2, none⟩ = some v) ∧ h < W.heap.size
theorem SAt.keep {W W' : World} {h : Nat} {u v : Value} (hS : SAt W h u v) (hb : Below W.heap.size W W') : SAt W' h u v := ⟨⟨(hb.cell (p := ⟨h, 1, none⟩) hS.2).trans hS.1.1, (hb.cell (p := ⟨h, 2, none⟩) hS.2).trans hS.1.2⟩, Nat.lt_of_lt_of_le hS.2 hb.size⟩
theorem SAt.al {W : World} {h : Nat} {u v : Value} (hS : SAt W h u v) (o : Obj) : SAt (W.alloc o) h u v := hS.keep (below_alloc W o)
theorem SAt.set {W : World} {h g : Nat} {u v : Value} (hS : SAt W h u v) (hne : g ≠ h) (x y z : Value) : SAt (set3 W g x y z) h u v := ⟨⟨(set3_far W g x y z hne 1).trans hS.1.1, (set3_far W g x y z hne 2).trans hS.1.2⟩, by simp [World.setCell]; exact hS.2⟩
theorem SAt.st {W : World} {h : Nat} {u v : Value} (hS : SAt W h u v) : W.cell? ⟨h, 1, none⟩ = some u ∧ W.cell? ⟨h, 2, none⟩ = some v := hS.1
theorem SAt.ne {W : World} {h : Nat} {u v : Value} (hS : SAt W h u v) : W.heap.size ≠ h := by have := hS.2; omega
/-- What the diagram's box holds when it has been made. -/
def RDMade (w : World) (s : List Int) (ns : Nat) (lp : Int) (v : Value) (wX : World) : Prop :=
  ∃ gB S cs gM, v = .pointer (some ⟨gB, 0, none⟩) ∧ w.heap.size ≤ gB ∧ DB wX gB S ns cs (some ⟨gM, 0, none⟩) (4 * ns) (4 * ns) lp ∧ (∀ i, wX.frozen? ⟨gB, i, none⟩ = false) ∧ OI wX w.heap.size (.slice S ns cs) s ∧ Arr wX gM 3 (4 * ns) (iv fun _ => 0) ∧ w.heap.size ≤ gM ∧ gB ≠ gM ∧ (Value.slice S ns cs).ownBlock ≠ some gM ∧ Below w.heap.size w wX
theorem rdmade_new {wA w2 : World} {S : Option Addr} {ns cs gM k : Nat} {s : List Int} {lp : Int} (t : TypeId) (ho : OI w2 wA.heap.size (.slice S ns cs) s) (hk : (Value.slice S ns cs).ownBlock = some k) (hm : Arr w2 gM 3 (4 * ns) (iv fun _ => 0)) (hgM : wA.heap.size ≤ gM) (hkm : k ≠ gM) (hb : Below wA.heap.size wA w2) :
    RDMade wA s ns lp (.pointer (some ⟨w2.heap.size, 0, none⟩)) (w2.alloc (.cells #[.slice S ns cs, .slice (some ⟨gM, 0, none⟩) (4 * ns) (4 * ns), .int .i64 lp] t)) :=
  ⟨w2.heap.size, S, cs, gM, rfl, hb.size, DB.newT w2 S ns cs (some ⟨gM, 0, none⟩) (4 * ns) (4 * ns) lp t, fun i => World.frozen?_alloc_at _ _ _ _ rfl, ho.alloc _, hm.alloc _, hgM, by have := hm.lt; omega, fun e => by rw [hk] at e; injection e with e; exact hkm e, below_step hb (below_alloc _ _)⟩
theorem rdmade_mid {wA w2 : World} {S : Option Addr} {ns cs k : Nat} {s : List Int} {lp : Int} (t : TypeId) (ho : OI w2 wA.heap.size (.slice S ns cs) s) (hk : (Value.slice S ns cs).ownBlock = some k) (hkl : k < w2.heap.size) (hb : Below wA.heap.size wA w2) :
    RDMade wA s ns lp (.pointer (some ⟨w2.heap.size, 0, none⟩)) ((w2.alloc (.cells #[.slice S ns cs, .slice (some ⟨w2.heap.size + 1, 0, none⟩) (4 * ns) (4 * ns), .int .i64 lp] t)).alloc (.cells (cellsN (4 * ns) fun _ => .int .i64 0) 3)) := by
  have h1 := DB.newT w2 S ns cs (some ⟨w2.heap.size + 1, 0, none⟩) (4 * ns) (4 * ns) lp t
  have h2 : Arr ((w2.alloc (.cells #[.slice S ns cs, .slice (some ⟨w2.heap.size + 1, 0, none⟩) (4 * ns) (4 * ns), .int .i64 lp] t)).alloc (.cells (cellsN (4 * ns) fun _ => .int .i64 0) 3)) (w2.heap.size + 1) 3 (4 * ns) (iv fun _ => 0) := by
    have h3 := (Arr.new (w2.alloc (.cells #[.slice S ns cs, .slice (some ⟨w2.heap.size + 1, 0, none⟩) (4 * ns) (4 * ns), .int .i64 lp] t)) (4 * ns) 3 (fun _ => .int .i64 0)).congr (V' := iv fun _ => 0) fun _ _ => rfl
    rw [show (w2.alloc (.cells #[.slice S ns cs, .slice (some ⟨w2.heap.size + 1, 0, none⟩) (4 * ns) (4 * ns), .int .i64 lp] t)).heap.size = w2.heap.size + 1 by simp] at h3
    exact h3
  have hs := hb.size
  refine ⟨w2.heap.size, S, cs, w2.heap.size + 1, rfl, hs, h1.keep (below_alloc _ _), fun i => ?_, (ho.alloc _).alloc _, h2, by omega, by omega, fun e => by rw [hk] at e; injection e with e; omega, below_step (below_step hb (below_alloc _ _)) (below_alloc _ _)⟩
  exact ((below_alloc _ _).frozen (p := ⟨w2.heap.size, i, none⟩) h1.2.2.2).trans (World.frozen?_alloc_at _ _ _ _ rfl)
theorem arr_z (w : World) (n : Nat) : Arr (w.alloc (.cells (cellsN n fun _ => .int .i64 0) 3)) w.heap.size 3 n (iv fun _ => 0) := (Arr.new w n 3 (fun _ => .int .i64 0)).congr fun _ _ => rfl
theorem rdmade_set {wA w2 : World} {S : Option Addr} {ns cs gM gB k : Nat} {s : List Int} {lp : Int} (hbx : BoxAt w2 gB) (ho : OI w2 wA.heap.size (.slice S ns cs) s) (hk : (Value.slice S ns cs).ownBlock = some k) (hm : Arr w2 gM 3 (4 * ns) (iv fun _ => 0)) (hgM : wA.heap.size ≤ gM) (hgB : wA.heap.size ≤ gB) (hkm : k ≠ gM) (hkd : k ≠ gB) (hne : gB ≠ gM) (hb : Below wA.heap.size wA w2) :
    RDMade wA s ns lp (.pointer (some ⟨gB, 0, none⟩)) (set3 w2 gB (.slice S ns cs) (.slice (some ⟨gM, 0, none⟩) (4 * ns) (4 * ns)) (.int .i64 lp)) := by
  obtain ⟨k0, k1, k2⟩ := set3_cells w2 gB (.slice S ns cs) (.slice (some ⟨gM, 0, none⟩) (4 * ns) (4 * ns)) (.int .i64 lp) hbx.1.1 hbx.1.2.1 hbx.1.2.2.1
  have hf := hbx.2
  have hlt := hbx.1.2.2.2
  have hne' : gM ≠ gB := fun e => hne e.symm
  refine ⟨gB, S, cs, gM, rfl, hgB, ⟨k0, k1, k2, by simp [World.setCell]; exact hlt⟩, fun i => by simp [hf], ho.set3 (fun e => by rw [hk] at e; injection e with e; exact hkd e) _ _ _, ?_, hgM, hne, fun e => by rw [hk] at e; injection e with e; exact hkm e, set3_below hb hgB _ _ _⟩
  exact ((hm.far (p := ⟨gB, 0, none⟩) hne' _).far (p := ⟨gB, 1, none⟩) hne' _).far (p := ⟨gB, 2, none⟩) hne' _
theorem rdmade_aft {wA w1 : World} {S : Option Addr} {ns cs k : Nat} {s : List Int} {lp : Int} (t : TypeId) (ho : OI w1 wA.heap.size (.slice S ns cs) s) (hk : (Value.slice S ns cs).ownBlock = some k) (hkl : k < w1.heap.size) (hb : Below wA.heap.size wA w1) :
    RDMade wA s ns lp (.pointer (some ⟨w1.heap.size + 1, 0, none⟩)) ((w1.alloc (.cells (cellsN (4 * ns) fun _ => .int .i64 0) 3)).alloc (.cells #[.slice S ns cs, .slice (some ⟨w1.heap.size, 0, none⟩) (4 * ns) (4 * ns), .int .i64 lp] t)) := by
  have h := rdmade_new t (ho.alloc (.cells (cellsN (4 * ns) fun _ => .int .i64 0) 3)) (lp := lp) hk (arr_z w1 (4 * ns)) hb.size (Nat.ne_of_lt hkl) (below_step hb (below_alloc _ _))
  rw [show (w1.alloc (.cells (cellsN (4 * ns) fun _ => .int .i64 0) 3)).heap.size = w1.heap.size + 1 by simp] at h
  exact h
theorem rdmade_setm {wA w1 : World} {S : Option Addr} {ns cs gB k : Nat} {s : List Int} {lp : Int} (hbx : BoxAt w1 gB) (ho : OI w1 wA.heap.size (.slice S ns cs) s) (hk : (Value.slice S ns cs).ownBlock = some k) (hkl : k < w1.heap.size) (hgB : wA.heap.size ≤ gB) (hkd : k ≠ gB) (hb : Below wA.heap.size wA w1) :
    RDMade wA s ns lp (.pointer (some ⟨gB, 0, none⟩)) (set3 (w1.alloc (.cells (cellsN (4 * ns) fun _ => .int .i64 0) 3)) gB (.slice S ns cs) (.slice (some ⟨w1.heap.size, 0, none⟩) (4 * ns) (4 * ns)) (.int .i64 lp)) :=
  rdmade_set (hbx.alloc _) (ho.alloc _) hk (arr_z w1 (4 * ns)) hb.size hgB (Nat.ne_of_lt hkl) hkd (Nat.ne_of_lt hbx.1.2.2.2) (below_step hb (below_alloc _ _))
def RDPost (vss : List (List Vis)) (s : List Int) (lp : Int) (ns : Nat) (w : World) (e : Ending) (w' : World) : Prop :=
  ∃ P pc R, e = .returned (dval P ns pc R (4 * ns) (4 * ns) lp) ∧ RI w' P ns s ∧ RI w' R (4 * ns) (mateL s vss) ∧ Below w.heap.size w w'

set_option maxHeartbeats 6400000 in
set_option maxRecDepth 100000 in
theorem rdiagram_any (C S : Option Addr) (nc cc ns cs : Nat) (lp : Int) (vss : List (List Vis)) (s : List Int) (w : World) (hC : RVV w C nc vss) (hS : RI w S ns s) (hns : ns ≤ 1000) (hnc : nc ≤ 1000) (hin : InR vss ns) (hll : ∀ j, (vss.getD j []).length ≤ 1000) :
    Calls Tryz.prog 28 #[dval C nc cc S ns cs lp] w (RDPost vss s lp ns w) := by
  have hd := (DB.newT w C nc cc S ns cs lp 36).keep (below_alloc _ (.cells #[.slice none 0 0, .slice none 0 0, .int .i64 0] 24))
  have hb0 := below_step (below_alloc w (.cells #[.slice C nc cc, .slice S ns cs, .int .i64 lp] 36)) (below_alloc _ (.cells #[.slice none 0 0, .slice none 0 0, .int .i64 0] 24))
  have hr := DB.newT (w.alloc (.cells #[.slice C nc cc, .slice S ns cs, .int .i64 lp] 36)) none 0 0 none 0 0 0 24
  have hrf : ∀ i, ((w.alloc (.cells #[.slice C nc cc, .slice S ns cs, .int .i64 lp] 36)).alloc (.cells #[.slice none 0 0, .slice none 0 0, .int .i64 0] 24)).frozen? ⟨w.heap.size + 1, i, none⟩ = false := fun i => World.frozen?_alloc_at _ _ _ _ (by simp)
  have hsz : ((w.alloc (.cells #[.slice C nc cc, .slice S ns cs, .int .i64 lp] 36)).alloc (.cells #[.slice none 0 0, .slice none 0 0, .int .i64 0] 24)).heap.size = w.heap.size + 2 := by simp
  have hsz1 : (w.alloc (.cells #[.slice C nc cc, .slice S ns cs, .int .i64 lp] 36)).heap.size = w.heap.size + 1 := by simp
  rw [hsz1] at hr
  have hcl := hC.1
  have HCL := Lib.hid hcl
  have HIN := Lib.hid hin
  have HLL := Lib.hid hll
  have HSL := Lib.hid hS.1
  have hmk : ∀ W, (Instr.makeSlice 22 (.int .i64 (4 * (ns : Int))) (.int .i64 (4 * (ns : Int)))).run Tryz.prog W = .ok (.slice (some ⟨W.heap.size, 0, none⟩) (4 * ns) (4 * ns)) (W.alloc (.cells (cellsN (4 * ns) fun _ => .int .i64 0) 3)) := fun W => by
    have := make_one (P := Tryz.prog) Tryz.underlying22 Tryz.infoInt rfl (4 * ns) (by omega) (by omega) W
    rw [show ((4 * ns : Nat) : Int) = 4 * (ns : Int) by omega] at this
    exact this
  clear hcl hin hll
  go_enter Tryz.func28, Tryz.ntmps28
  go_upto_region 1 with fail
  have HCw := Lib.hid (hC.keep hb0)
  have hs1 := hS.keep hb0
  have HSw := Lib.hid hs1
  generalize (w.alloc (.cells #[.slice C nc cc, .slice S ns cs, .int .i64 lp] 36)).alloc (.cells #[.slice none 0 0, .slice none 0 0, .int .i64 0] 24) = wA at *
  obtain ⟨g1, hg1⟩ : ∃ g1, w.heap.size + 1 = g1 := ⟨_, rfl⟩
  rw [hg1] at hr hrf ⊢
  have hlt1 : w.heap.size < g1 := by omega
  clear hg1 hsz hsz1
  have HD := Lib.hid hd
  have HR := Lib.hid hr
  obtain ⟨d0, d1, d2, dlt⟩ := hd
  have HRF := Lib.hid hrf
  have HSA : Hid (SAt wA w.heap.size (.slice S ns cs) (.int .i64 lp)) := Lib.hid ⟨⟨d1, d2⟩, dlt⟩
  have hw4 : IntKind.i64.wrap (4 * (ns : Int)) = 4 * (ns : Int) := IntWalk.i64_in _ (by omega)
  have hn0 : wA.heap.size ≠ w.heap.size := by omega
  have hn1 : wA.heap.size + 1 ≠ w.heap.size := by omega
  have hn2 : wA.heap.size + 2 ≠ w.heap.size := by omega
  have K1 : Hid (∀ o1, (wA.alloc o1).drew.cell? ⟨w.heap.size, 1, none⟩ = some (.slice S ns cs) ∧ (wA.alloc o1).drew.cell? ⟨w.heap.size, 2, none⟩ = some (.int .i64 lp)) := fun o1 => (HSA.out.keep (pre_b1 wA o1)).1
  have K2 : Hid (∀ o1 o2, ((wA.alloc o1).alloc o2).drew.cell? ⟨w.heap.size, 1, none⟩ = some (.slice S ns cs) ∧ ((wA.alloc o1).alloc o2).drew.cell? ⟨w.heap.size, 2, none⟩ = some (.int .i64 lp)) := fun o1 o2 => (HSA.out.keep (pre_b2 wA o1 o2)).1
  have K3 : Hid (∀ o1 o2 o3, (((wA.alloc o1).alloc o2).alloc o3).drew.cell? ⟨w.heap.size, 1, none⟩ = some (.slice S ns cs) ∧ (((wA.alloc o1).alloc o2).alloc o3).drew.cell? ⟨w.heap.size, 2, none⟩ = some (.int .i64 lp)) := fun o1 o2 o3 => (HSA.out.keep (pre_b3 wA o1 o2 o3)).1
  clear hC hS hr hrf
  go_cut [3] (fun v wX => RDMade wA s ns lp v wX)
  case first =>
    go_region_held3 (fun w' => w'.cell? ⟨w.heap.size, 1, none⟩ = some (.slice S ns cs) ∧ w'.cell? ⟨w.heap.size, 2, none⟩ = some (.int .i64 lp))
      (first
        | with_reducible exact K3.out _ _ _
        | with_reducible exact K2.out _ _
        | with_reducible exact K1.out _
        | with_reducible exact hS1.st
        | with_reducible exact (SAt.al hS1 _).st
        | with_reducible exact (SAt.al (SAt.al hS1 _) _).st
        | with_reducible exact (SAt.set hS1 (by assumption) _ _ _).st
        | with_reducible exact (SAt.set (SAt.al hS1 _) (by assumption) _ _ _).st
        | with_reducible exact (SAt.set (SAt.al (SAt.al hS1 _) _) (by assumption) _ _ _).st
        | go_keep)
      (first
        | (refine step_append_new rfl (.tmp 11) (.tmp 13) rfl wA.heap.size (wA.heap.size) (by rfl) (by exact heap_alloc_new wA _) (by exact Nat.le_refl _) S ns cs s (by rfl) (by exact (hs1.alloc _).drew) (by omega) ?_; intro A1 c1 w1 k1 ho1 hk1 hat1 hkl1 hgr1; have hbB : Below wA.heap.size wA w1 := pre_below (W := (wA.alloc (.cells #[] 3)).drew) hgr1 (pre_b1 wA _) (Nat.le_refl _); have hS1 : SAt w1 w.heap.size (.slice S ns cs) (.int .i64 lp) := (HSA.out).keep hbB; have hn3 := hS1.ne)
        | (refine step_append_new rfl (.tmp 11) (.tmp 13) rfl wA.heap.size (wA.heap.size) (by rfl) (by exact heap_two0 wA _ _) (by exact Nat.le_refl _) S ns cs s (by rfl) (by exact ((hs1.alloc _).alloc _).drew) (by omega) ?_; intro A1 c1 w1 k1 ho1 hk1 hat1 hkl1 hgr1; have hbB : Below wA.heap.size wA w1 := pre_below (W := ((wA.alloc (.cells #[] 3)).alloc (.cells (cellsN (4 * ns) fun _ => .int .i64 0) 3)).drew) hgr1 (pre_b2 wA _ _) (Nat.le_refl _); have hS1 : SAt w1 w.heap.size (.slice S ns cs) (.int .i64 lp) := (HSA.out).keep hbB; have hn3 := hS1.ne; have hm1 := pre_arr (W := ((wA.alloc (.cells #[] 3)).alloc (.cells (cellsN (4 * ns) fun _ => .int .i64 0) 3)).drew) (heap_two1 wA _ _) hgr1 (by omega); have hkm : k1 ≠ wA.heap.size + 1 := pre_ne hat1 (by omega) (by simp <;> omega))
        | (refine step_append_new rfl (.tmp 11) (.tmp 13) rfl wA.heap.size (wA.heap.size + 1) (by rfl) (by exact heap_two1 wA _ _) (by exact Nat.le_succ _) S ns cs s (by rfl) (by exact ((hs1.alloc _).alloc _).drew) (by omega) ?_; intro A1 c1 w1 k1 ho1 hk1 hat1 hkl1 hgr1; have hbB : Below wA.heap.size wA w1 := pre_below (W := ((wA.alloc (.cells (cellsN (4 * ns) fun _ => .int .i64 0) 3)).alloc (.cells #[] 3)).drew) hgr1 (pre_b2 wA _ _) (Nat.le_succ _); have hS1 : SAt w1 w.heap.size (.slice S ns cs) (.int .i64 lp) := (HSA.out).keep hbB; have hn3 := hS1.ne; have hm1 := pre_arr (W := ((wA.alloc (.cells (cellsN (4 * ns) fun _ => .int .i64 0) 3)).alloc (.cells #[] 3)).drew) (heap_two0 wA _ _) hgr1 (by omega); have hkm : k1 ≠ wA.heap.size := pre_ne hat1 (by omega) (by simp <;> omega))
        | (refine step_append_new rfl (.tmp 11) (.tmp 13) rfl wA.heap.size (wA.heap.size) (by rfl) (by exact heap_two0 wA _ _) (by exact Nat.le_refl _) S ns cs s (by rfl) (by exact ((hs1.alloc _).alloc _).drew) (by omega) ?_; intro A1 c1 w1 k1 ho1 hk1 hat1 hkl1 hgr1; have hbB : Below wA.heap.size wA w1 := pre_below (W := ((wA.alloc (.cells #[] 3)).alloc (.cells #[.slice none 0 0, .slice none 0 0, .int .i64 0] 24)).drew) hgr1 (pre_b2 wA _ _) (Nat.le_refl _); have hS1 : SAt w1 w.heap.size (.slice S ns cs) (.int .i64 lp) := (HSA.out).keep hbB; have hn3 := hS1.ne; have hbx : BoxAt w1 (wA.heap.size + 1) := pre_box (W := ((wA.alloc (.cells #[] 3)).alloc (.cells #[.slice none 0 0, .slice none 0 0, .int .i64 0] 24)).drew) (heap_two1 wA _ _) hgr1 (by omega); have hkd : k1 ≠ wA.heap.size + 1 := pre_ne hat1 (by omega) (by simp <;> omega); have q0 := hbx.1.1; have q1 := hbx.1.2.1; have q2 := hbx.1.2.2.1; have f0 := hbx.2 0; have f1 := hbx.2 1; have f2 := hbx.2 2; have hby := hbx.alloc (.cells (cellsN (4 * ns) fun _ => .int .i64 0) 3); have p0 := hby.1.1; have p1 := hby.1.2.1; have p2 := hby.1.2.2.1; have e0 := hby.2 0; have e1 := hby.2 1; have e2 := hby.2 2)
        | (refine step_append_new rfl (.tmp 11) (.tmp 13) rfl wA.heap.size (wA.heap.size + 1) (by rfl) (by exact heap_two1 wA _ _) (by exact Nat.le_succ _) S ns cs s (by rfl) (by exact ((hs1.alloc _).alloc _).drew) (by omega) ?_; intro A1 c1 w1 k1 ho1 hk1 hat1 hkl1 hgr1; have hbB : Below wA.heap.size wA w1 := pre_below (W := ((wA.alloc (.cells #[.slice none 0 0, .slice none 0 0, .int .i64 0] 24)).alloc (.cells #[] 3)).drew) hgr1 (pre_b2 wA _ _) (Nat.le_succ _); have hS1 : SAt w1 w.heap.size (.slice S ns cs) (.int .i64 lp) := (HSA.out).keep hbB; have hn3 := hS1.ne; have hbx : BoxAt w1 (wA.heap.size) := pre_box (W := ((wA.alloc (.cells #[.slice none 0 0, .slice none 0 0, .int .i64 0] 24)).alloc (.cells #[] 3)).drew) (heap_two0 wA _ _) hgr1 (by omega); have hkd : k1 ≠ wA.heap.size := pre_ne hat1 (by omega) (by simp <;> omega); have q0 := hbx.1.1; have q1 := hbx.1.2.1; have q2 := hbx.1.2.2.1; have f0 := hbx.2 0; have f1 := hbx.2 1; have f2 := hbx.2 2; have hby := hbx.alloc (.cells (cellsN (4 * ns) fun _ => .int .i64 0) 3); have p0 := hby.1.1; have p1 := hby.1.2.1; have p2 := hby.1.2.2.1; have e0 := hby.2 0; have e1 := hby.2 1; have e2 := hby.2 2)
        | (refine step_append_new rfl (.tmp 11) (.tmp 13) rfl wA.heap.size (wA.heap.size) (by rfl) (by exact heap_three0 wA _ _ _) (by exact Nat.le_refl _) S ns cs s (by rfl) (by exact (((hs1.alloc _).alloc _).alloc _).drew) (by omega) ?_; intro A1 c1 w1 k1 ho1 hk1 hat1 hkl1 hgr1; have hbB : Below wA.heap.size wA w1 := pre_below (W := (((wA.alloc (.cells #[] 3)).alloc (.cells (cellsN (4 * ns) fun _ => .int .i64 0) 3)).alloc (.cells #[.slice none 0 0, .slice none 0 0, .int .i64 0] 24)).drew) hgr1 (pre_b3 wA _ _ _) (Nat.le_refl _); have hS1 : SAt w1 w.heap.size (.slice S ns cs) (.int .i64 lp) := (HSA.out).keep hbB; have hn3 := hS1.ne; have hm1 := pre_arr (W := (((wA.alloc (.cells #[] 3)).alloc (.cells (cellsN (4 * ns) fun _ => .int .i64 0) 3)).alloc (.cells #[.slice none 0 0, .slice none 0 0, .int .i64 0] 24)).drew) (heap_three1 wA _ _ _) hgr1 (by omega); have hkm : k1 ≠ wA.heap.size + 1 := pre_ne hat1 (by omega) (by simp <;> omega); have hbx : BoxAt w1 (wA.heap.size + 2) := pre_box (W := (((wA.alloc (.cells #[] 3)).alloc (.cells (cellsN (4 * ns) fun _ => .int .i64 0) 3)).alloc (.cells #[.slice none 0 0, .slice none 0 0, .int .i64 0] 24)).drew) (heap_three2 wA _ _ _) hgr1 (by omega); have hkd : k1 ≠ wA.heap.size + 2 := pre_ne hat1 (by omega) (by simp <;> omega); have q0 := hbx.1.1; have q1 := hbx.1.2.1; have q2 := hbx.1.2.2.1; have f0 := hbx.2 0; have f1 := hbx.2 1; have f2 := hbx.2 2)
        | (refine step_append_new rfl (.tmp 11) (.tmp 13) rfl wA.heap.size (wA.heap.size) (by rfl) (by exact heap_three0 wA _ _ _) (by exact Nat.le_refl _) S ns cs s (by rfl) (by exact (((hs1.alloc _).alloc _).alloc _).drew) (by omega) ?_; intro A1 c1 w1 k1 ho1 hk1 hat1 hkl1 hgr1; have hbB : Below wA.heap.size wA w1 := pre_below (W := (((wA.alloc (.cells #[] 3)).alloc (.cells #[.slice none 0 0, .slice none 0 0, .int .i64 0] 24)).alloc (.cells (cellsN (4 * ns) fun _ => .int .i64 0) 3)).drew) hgr1 (pre_b3 wA _ _ _) (Nat.le_refl _); have hS1 : SAt w1 w.heap.size (.slice S ns cs) (.int .i64 lp) := (HSA.out).keep hbB; have hn3 := hS1.ne; have hm1 := pre_arr (W := (((wA.alloc (.cells #[] 3)).alloc (.cells #[.slice none 0 0, .slice none 0 0, .int .i64 0] 24)).alloc (.cells (cellsN (4 * ns) fun _ => .int .i64 0) 3)).drew) (heap_three2 wA _ _ _) hgr1 (by omega); have hkm : k1 ≠ wA.heap.size + 2 := pre_ne hat1 (by omega) (by simp <;> omega); have hbx : BoxAt w1 (wA.heap.size + 1) := pre_box (W := (((wA.alloc (.cells #[] 3)).alloc (.cells #[.slice none 0 0, .slice none 0 0, .int .i64 0] 24)).alloc (.cells (cellsN (4 * ns) fun _ => .int .i64 0) 3)).drew) (heap_three1 wA _ _ _) hgr1 (by omega); have hkd : k1 ≠ wA.heap.size + 1 := pre_ne hat1 (by omega) (by simp <;> omega); have q0 := hbx.1.1; have q1 := hbx.1.2.1; have q2 := hbx.1.2.2.1; have f0 := hbx.2 0; have f1 := hbx.2 1; have f2 := hbx.2 2)
        | (refine step_append_new rfl (.tmp 11) (.tmp 13) rfl wA.heap.size (wA.heap.size + 1) (by rfl) (by exact heap_three1 wA _ _ _) (by exact Nat.le_succ _) S ns cs s (by rfl) (by exact (((hs1.alloc _).alloc _).alloc _).drew) (by omega) ?_; intro A1 c1 w1 k1 ho1 hk1 hat1 hkl1 hgr1; have hbB : Below wA.heap.size wA w1 := pre_below (W := (((wA.alloc (.cells (cellsN (4 * ns) fun _ => .int .i64 0) 3)).alloc (.cells #[] 3)).alloc (.cells #[.slice none 0 0, .slice none 0 0, .int .i64 0] 24)).drew) hgr1 (pre_b3 wA _ _ _) (Nat.le_succ _); have hS1 : SAt w1 w.heap.size (.slice S ns cs) (.int .i64 lp) := (HSA.out).keep hbB; have hn3 := hS1.ne; have hm1 := pre_arr (W := (((wA.alloc (.cells (cellsN (4 * ns) fun _ => .int .i64 0) 3)).alloc (.cells #[] 3)).alloc (.cells #[.slice none 0 0, .slice none 0 0, .int .i64 0] 24)).drew) (heap_three0 wA _ _ _) hgr1 (by omega); have hkm : k1 ≠ wA.heap.size := pre_ne hat1 (by omega) (by simp <;> omega); have hbx : BoxAt w1 (wA.heap.size + 2) := pre_box (W := (((wA.alloc (.cells (cellsN (4 * ns) fun _ => .int .i64 0) 3)).alloc (.cells #[] 3)).alloc (.cells #[.slice none 0 0, .slice none 0 0, .int .i64 0] 24)).drew) (heap_three2 wA _ _ _) hgr1 (by omega); have hkd : k1 ≠ wA.heap.size + 2 := pre_ne hat1 (by omega) (by simp <;> omega); have q0 := hbx.1.1; have q1 := hbx.1.2.1; have q2 := hbx.1.2.2.1; have f0 := hbx.2 0; have f1 := hbx.2 1; have f2 := hbx.2 2)
        | (refine step_append_new rfl (.tmp 11) (.tmp 13) rfl wA.heap.size (wA.heap.size + 2) (by rfl) (by exact heap_three2 wA _ _ _) (by exact Nat.le_add_right _ _) S ns cs s (by rfl) (by exact (((hs1.alloc _).alloc _).alloc _).drew) (by omega) ?_; intro A1 c1 w1 k1 ho1 hk1 hat1 hkl1 hgr1; have hbB : Below wA.heap.size wA w1 := pre_below (W := (((wA.alloc (.cells (cellsN (4 * ns) fun _ => .int .i64 0) 3)).alloc (.cells #[.slice none 0 0, .slice none 0 0, .int .i64 0] 24)).alloc (.cells #[] 3)).drew) hgr1 (pre_b3 wA _ _ _) (Nat.le_add_right _ _); have hS1 : SAt w1 w.heap.size (.slice S ns cs) (.int .i64 lp) := (HSA.out).keep hbB; have hn3 := hS1.ne; have hm1 := pre_arr (W := (((wA.alloc (.cells (cellsN (4 * ns) fun _ => .int .i64 0) 3)).alloc (.cells #[.slice none 0 0, .slice none 0 0, .int .i64 0] 24)).alloc (.cells #[] 3)).drew) (heap_three0 wA _ _ _) hgr1 (by omega); have hkm : k1 ≠ wA.heap.size := pre_ne hat1 (by omega) (by simp <;> omega); have hbx : BoxAt w1 (wA.heap.size + 1) := pre_box (W := (((wA.alloc (.cells (cellsN (4 * ns) fun _ => .int .i64 0) 3)).alloc (.cells #[.slice none 0 0, .slice none 0 0, .int .i64 0] 24)).alloc (.cells #[] 3)).drew) (heap_three1 wA _ _ _) hgr1 (by omega); have hkd : k1 ≠ wA.heap.size + 1 := pre_ne hat1 (by omega) (by simp <;> omega); have q0 := hbx.1.1; have q1 := hbx.1.2.1; have q2 := hbx.1.2.2.1; have f0 := hbx.2 0; have f1 := hbx.2 1; have f2 := hbx.2 2)
        | (refine step_append_new rfl (.tmp 11) (.tmp 13) rfl wA.heap.size (wA.heap.size + 1) (by rfl) (by exact heap_three1 wA _ _ _) (by exact Nat.le_succ _) S ns cs s (by rfl) (by exact (((hs1.alloc _).alloc _).alloc _).drew) (by omega) ?_; intro A1 c1 w1 k1 ho1 hk1 hat1 hkl1 hgr1; have hbB : Below wA.heap.size wA w1 := pre_below (W := (((wA.alloc (.cells #[.slice none 0 0, .slice none 0 0, .int .i64 0] 24)).alloc (.cells #[] 3)).alloc (.cells (cellsN (4 * ns) fun _ => .int .i64 0) 3)).drew) hgr1 (pre_b3 wA _ _ _) (Nat.le_succ _); have hS1 : SAt w1 w.heap.size (.slice S ns cs) (.int .i64 lp) := (HSA.out).keep hbB; have hn3 := hS1.ne; have hm1 := pre_arr (W := (((wA.alloc (.cells #[.slice none 0 0, .slice none 0 0, .int .i64 0] 24)).alloc (.cells #[] 3)).alloc (.cells (cellsN (4 * ns) fun _ => .int .i64 0) 3)).drew) (heap_three2 wA _ _ _) hgr1 (by omega); have hkm : k1 ≠ wA.heap.size + 2 := pre_ne hat1 (by omega) (by simp <;> omega); have hbx : BoxAt w1 (wA.heap.size) := pre_box (W := (((wA.alloc (.cells #[.slice none 0 0, .slice none 0 0, .int .i64 0] 24)).alloc (.cells #[] 3)).alloc (.cells (cellsN (4 * ns) fun _ => .int .i64 0) 3)).drew) (heap_three0 wA _ _ _) hgr1 (by omega); have hkd : k1 ≠ wA.heap.size := pre_ne hat1 (by omega) (by simp <;> omega); have q0 := hbx.1.1; have q1 := hbx.1.2.1; have q2 := hbx.1.2.2.1; have f0 := hbx.2 0; have f1 := hbx.2 1; have f2 := hbx.2 2)
        | (refine step_append_new rfl (.tmp 11) (.tmp 13) rfl wA.heap.size (wA.heap.size + 2) (by rfl) (by exact heap_three2 wA _ _ _) (by exact Nat.le_add_right _ _) S ns cs s (by rfl) (by exact (((hs1.alloc _).alloc _).alloc _).drew) (by omega) ?_; intro A1 c1 w1 k1 ho1 hk1 hat1 hkl1 hgr1; have hbB : Below wA.heap.size wA w1 := pre_below (W := (((wA.alloc (.cells #[.slice none 0 0, .slice none 0 0, .int .i64 0] 24)).alloc (.cells (cellsN (4 * ns) fun _ => .int .i64 0) 3)).alloc (.cells #[] 3)).drew) hgr1 (pre_b3 wA _ _ _) (Nat.le_add_right _ _); have hS1 : SAt w1 w.heap.size (.slice S ns cs) (.int .i64 lp) := (HSA.out).keep hbB; have hn3 := hS1.ne; have hm1 := pre_arr (W := (((wA.alloc (.cells #[.slice none 0 0, .slice none 0 0, .int .i64 0] 24)).alloc (.cells (cellsN (4 * ns) fun _ => .int .i64 0) 3)).alloc (.cells #[] 3)).drew) (heap_three1 wA _ _ _) hgr1 (by omega); have hkm : k1 ≠ wA.heap.size + 1 := pre_ne hat1 (by omega) (by simp <;> omega); have hbx : BoxAt w1 (wA.heap.size) := pre_box (W := (((wA.alloc (.cells #[.slice none 0 0, .slice none 0 0, .int .i64 0] 24)).alloc (.cells (cellsN (4 * ns) fun _ => .int .i64 0) 3)).alloc (.cells #[] 3)).drew) (heap_three0 wA _ _ _) hgr1 (by omega); have hkd : k1 ≠ wA.heap.size := pre_ne hat1 (by omega) (by simp <;> omega); have q0 := hbx.1.1; have q1 := hbx.1.2.1; have q2 := hbx.1.2.2.1; have f0 := hbx.2 0; have f1 := hbx.2 1; have f2 := hbx.2 2))
    all_goals go_wp2_with fail
    all_goals go_meet
    all_goals first
      | with_reducible exact rdmade_aft _ ho1 hk1 hkl1 hbB
      | with_reducible exact rdmade_mid _ ho1 hk1 hkl1 hbB
      | (with_reducible refine rdmade_new _ ho1 hk1 hm1 ?_ hkm hbB; omega)
      | (with_reducible refine rdmade_setm hbx ho1 hk1 hkl1 ?_ hkd hbB; omega)
      | (with_reducible refine rdmade_set hbx ho1 hk1 hm1 ?_ ?_ hkm hkd ?_ hbB <;> omega)
  case rest =>
    obtain ⟨gB, P, pc, gM, rfl, hgB, hcb, hcf, hoP, hA0, hgM, hBM, hPM, hbX⟩ := hcut
    have hA0' : Arr wc gM 3 (4 * ns) (iv (mAll s vss 0)) := hA0.congr fun _ _ => rfl
    have HCB := Lib.hid hcb
    have HOP := Lib.hid hoP
    have HPM := Lib.hid hPM
    have HBX := Lib.hid hbX
    have hszc := hbX.size
    clear K1 K2 K3 hmk hw4 HSA hn0 hn1 hn2 d0 d1 d2 hcb hcf hoP hbX hA0 hPM hs1
    go_wp2
    go_loopw [4, 5, 6, 7, 8, 9, 10] (fun i _ _ _ _ _ _ wr => ∃ k : Nat, k ≤ nc ∧ i = .int .i64 k ∧ wc.grownBy wr (some gM) ∧ Arr wr gM 3 (4 * ns) (iv (mAll s vss k))) (fun i _ _ _ _ _ _ _ => nc - (intOf i).toNat)
    case atStart => exact ⟨0, by omega, rfl, World.grownBy.refl _ _, hA0'⟩
    case round =>
      obtain ⟨k, hk, rfl, hgr, hA⟩ := hrel
      have hk0 : (0 : Int) ≤ (k : Int) := Int.natCast_nonneg _
      have hbr' : Below wA.heap.size wA wr := grown_below HBX.out hgr hszc hgM
      obtain ⟨x0, x1, x2, xlt⟩ := HD.out.keep hbr'
      have HGR := Lib.hid hgr
      by_cases hlt : k < nc
      · obtain ⟨bC, oC, hCe, hbC, hcc⟩ := HCw.out.2 (by omega)
        subst hCe
        obtain ⟨A1, n1, c1, hcel0, hrv⟩ := hcc k hlt
        have hcel := (hbr'.cell (p := ⟨bC, oC + k, none⟩) hbC).trans hcel0
        obtain ⟨l, hl⟩ : ∃ l, vss.getD k [] = l := ⟨_, rfl⟩
        have hl1 := HLL.out k
        have hin1 : ∀ i, i < n1 → 0 ≤ (l.getD i v0).1 ∧ (l.getD i v0).1 < ns := fun i hi => by
          have h1 := hrv.1
          have := HIN.out k i (by rw [HCL.out]; exact hlt) (by rw [h1]; exact hi)
          rw [hl] at this; exact this
        rw [hl] at hrv hl1
        have hln := hrv.1
        rw [hln] at hl1
        have HIN1 := Lib.hid hin1
        have hk1 : (k : Int) < (nc : Int) := by omega
        have hA1 : Arr wr gM 3 (4 * ns) (iv (mRow s l (mAll s vss k) 0)) := hA
        have hMn : mRow s l (mAll s vss k) n1 = mAll s vss (k + 1) := by
          show _ = mRow s (vss.getD k []) (mAll s vss k) (vss.getD k []).length
          rw [hl, hln]
        have HMN := Lib.hid hMn
        have HLN := Lib.hid hln
        have HRV := Lib.hid hrv
        obtain ⟨wC, hwC⟩ : ∃ wC : World, wC = wr := ⟨_, rfl⟩
        subst hwC
        clear hcc hin1 hA hln hMn hl hrv hgr hbr'
        go_wp2
        go_loopw [6, 7, 8, 9, 10] (fun i _ _ _ _ wr => ∃ q : Nat, q ≤ n1 ∧ i = .int .i64 q ∧ wc.grownBy wr (some gM) ∧ Arr wr gM 3 (4 * ns) (iv (mRow s l (mAll s vss k) q))) (fun i _ _ _ _ _ => n1 - (intOf i).toNat)
        case atStart => exact ⟨0, by omega, rfl, HGR.out, hA1⟩
        case round =>
          obtain ⟨q, hq, rfl, hgq, hAq⟩ := hrel
          have hq0 : (0 : Int) ≤ (q : Int) := Int.natCast_nonneg _
          have hbq' : Below wA.heap.size wA wr := grown_below HBX.out hgq hszc hgM
          have HGQ := Lib.hid hgq
          have HAQ := Lib.hid hAq
          clear hgq hAq
          by_cases hql : q < n1
          · obtain ⟨b1, o1, hAe, hb1, hcv⟩ := (HRV.out.keep hbq').2 (by omega)
            subst hAe
            obtain ⟨nx, hnx⟩ : ∃ nx, (q + 1) % n1 = nx := ⟨_, rfl⟩
            have hnl : nx < n1 := by rw [← hnx]; exact Nat.mod_lt _ (by omega)
            obtain ⟨z0, z1⟩ := hcv q hql
            obtain ⟨z2, z3⟩ := hcv nx hnl
            obtain ⟨iu0, iu1⟩ := HIN1.out q hql
            obtain ⟨iv0, iv1⟩ := HIN1.out nx hnl
            have hstep : mRow s l (mAll s vss k) (q + 1) = mStep s (l.getD q v0) (l.getD nx v0) (mRow s l (mAll s vss k) q) := by
              show mStep s (l.getD q v0) (l.getD ((q + 1) % l.length) v0) (mRow s l (mAll s vss k) q) = _
              rw [HLN.out, hnx]
            obtain ⟨u, hu⟩ : ∃ u, l.getD q v0 = u := ⟨_, rfl⟩
            obtain ⟨v, hv⟩ : ∃ v, l.getD nx v0 = v := ⟨_, rfl⟩
            rw [hu] at z0 z1 iu0 iu1 hstep
            rw [hv] at z2 z3 iv0 iv1 hstep
            obtain ⟨uc, uo⟩ := u
            obtain ⟨vc, vo⟩ := v
            simp only at z0 z1 iu0 iu1 z2 z3 iv0 iv1
            obtain ⟨cu, rfl⟩ := Int.eq_ofNat_of_zero_le iu0
            obtain ⟨cv, rfl⟩ := Int.eq_ofNat_of_zero_le iv0
            have hcu : cu < ns := by omega
            have hcv' : cv < ns := by omega
            have t1 : ((q : Int) + 1).tmod (n1 : Int) = ((nx : Nat) : Int) := by rw [Int.tmod_eq_emod_of_nonneg (by omega), ← hnx, Int.natCast_emod]; rfl
            have t1' : ((q : Int) + 1) % (n1 : Int) = ((nx : Nat) : Int) := by rw [← Int.tmod_eq_emod_of_nonneg (by omega)]; exact t1
            have t2 : (n1 : Int) ≠ 0 := by omega
            have t2' : ((n1 : Int) == 0) = false := by simp only [beq_eq_false_iff_ne, ne_eq]; omega
            have t9 : n1 ≠ 0 := by omega
            have t9' : (n1 == 0) = false := by simp only [beq_eq_false_iff_ne, ne_eq]; omega
            have t9a : 0 < n1 := by omega
            have t3 : (nx : Int) < (n1 : Int) := by omega
            have t4 : (0 : Int) ≤ (nx : Int) := Int.natCast_nonneg _
            have hq1 : (q : Int) < (n1 : Int) := by omega
            have t5 : IntKind.i64.wrap (nx : Int) = (nx : Int) := IntWalk.i64_in _ (by omega)
            have t6 : IntKind.i64.wrap ((q : Int) + 1) = (q : Int) + 1 := IntWalk.i64_in _ (by omega)
            have t7 : IntKind.i64.wrap (((q : Int) + 1).tmod (n1 : Int)) = ((nx : Nat) : Int) := by rw [t1]; exact t5
            have t8 : IntKind.i64.wrap (((q : Int) + 1) % (n1 : Int)) = ((nx : Nat) : Int) := by rw [t1']; exact t5
            have HST := Lib.hid hstep
            have CO : ∀ W : World, Below wA.heap.size wA W → Hid (Calls Tryz.prog 54 #[.slice S ns cs, .agg #[.int .i64 (cu : Nat), .bool uo]] W fun e w' => e = .returned (.tuple #[.int .i64 (outN s cu uo : Nat), .int .i64 (inN s cu uo : Nat)]) ∧ Below W.heap.size W w') := fun W hb => rends_any cu uo S ns cs s W (HSw.out.keep hb) hcu hns
            have CI : ∀ W : World, Below wA.heap.size wA W → Hid (Calls Tryz.prog 54 #[.slice S ns cs, .agg #[.int .i64 (cv : Nat), .bool vo]] W fun e w' => e = .returned (.tuple #[.int .i64 (outN s cv vo : Nat), .int .i64 (inN s cv vo : Nat)]) ∧ Below W.heap.size W w') := fun W hb => rends_any cv vo S ns cs s W (HSw.out.keep hb) hcv' hns
            have o1n := outN_lt (s := s) uo hcu
            have i1n := inN_lt (s := s) vo hcv'
            have hne := outN_ne_inN s cu cv uo vo
            have hM2 : mStep s ((cu : Int), uo) ((cv : Int), vo) (mRow s l (mAll s vss k) q) = upd (upd (mRow s l (mAll s vss k) q) (outN s cu uo) (inN s cv vo)) (inN s cv vo) (outN s cu uo) := rfl
            rw [hM2] at hstep
            have HST2 := Lib.hid hstep
            obtain ⟨x0, x1, x2, xlt⟩ := HD.out.keep hbq'
            have hbD : Below wr.heap.size wr wr.drew := (Below.refl _ _).drew
            have HZ : Hid (∀ W, Below wr.heap.size wr W → W.cell? ⟨w.heap.size, 1, none⟩ = some (.slice S ns cs) ∧ (W.cell? ⟨b1, o1 + q * 2, none⟩ = some (.int .i64 (cu : Nat)) ∧ W.cell? ⟨b1, o1 + q * 2 + 1, none⟩ = some (.bool uo)) ∧ (W.cell? ⟨b1, o1 + nx * 2, none⟩ = some (.int .i64 (cv : Nat)) ∧ W.cell? ⟨b1, o1 + nx * 2 + 1, none⟩ = some (.bool vo))) := fun W hb =>
              ⟨(hb.cell (p := ⟨w.heap.size, 1, none⟩) xlt).trans x1, ⟨(hb.cell (p := ⟨b1, o1 + q * 2, none⟩) hb1).trans z0, (hb.cell (p := ⟨b1, o1 + q * 2 + 1, none⟩) hb1).trans z1⟩, ⟨(hb.cell (p := ⟨b1, o1 + nx * 2, none⟩) hb1).trans z2, (hb.cell (p := ⟨b1, o1 + nx * 2 + 1, none⟩) hb1).trans z3⟩⟩
            clear hcv hnx hu hv hstep iu0 iv0 hM2 HST z2 z3
            go_upto_region 9 with fail
            go_region_held3 (fun w' => w'.cell? ⟨w.heap.size, 1, none⟩ = some (.slice S ns cs) ∧ (w'.cell? ⟨b1, o1 + q * 2, none⟩ = some (.int .i64 (cu : Nat)) ∧ w'.cell? ⟨b1, o1 + q * 2 + 1, none⟩ = some (.bool uo)) ∧ (w'.cell? ⟨b1, o1 + nx * 2, none⟩ = some (.int .i64 (cv : Nat)) ∧ w'.cell? ⟨b1, o1 + nx * 2 + 1, none⟩ = some (.bool vo)))
              (first
                | with_reducible exact HZ.out _ hb5
                | with_reducible exact HZ.out _ hbD
                | go_keep)
              ((go_at_call 54; ((with_reducible refine (CO _ (below_step hbq' hbD)).out.mono ?_); rintro e w5 ⟨rfl, hb5'⟩; have hb5 := below_step hbD hb5'; clear hb5')))
            have hbD5 : Below wr.heap.size wr w5.drew := hb5.drew
            obtain ⟨y1, ⟨y2, y3⟩, y4, y5⟩ := HZ.out _ hb5
            go_upto_region 10 with fail
            go_region_held3 (fun w' => w'.cell? ⟨w.heap.size, 1, none⟩ = some (.slice S ns cs) ∧ (w'.cell? ⟨b1, o1 + q * 2, none⟩ = some (.int .i64 (cu : Nat)) ∧ w'.cell? ⟨b1, o1 + q * 2 + 1, none⟩ = some (.bool uo)) ∧ (w'.cell? ⟨b1, o1 + nx * 2, none⟩ = some (.int .i64 (cv : Nat)) ∧ w'.cell? ⟨b1, o1 + nx * 2 + 1, none⟩ = some (.bool vo)))
              (first
                | with_reducible exact HZ.out _ hb6
                | with_reducible exact HZ.out _ hbD5
                | go_keep)
              ((go_at_call 54; ((with_reducible refine (CI _ (below_step hbq' hbD5)).out.mono ?_); rintro e w6 ⟨rfl, hb6'⟩; have hb6 := below_step hbD5 hb6'; clear hb6')))
            have hA6 := HAQ.out.keep hb6
            have hgr6 : wc.grownBy w6 (some gM) := HGQ.out.andThen (grown_of_below hb6) (fun j hj => by cases hj)
            have HGR6 := Lib.hid hgr6
            have bx := HCB.out.grown hgr6 hBM
            have bx1 := bx.2.1
            obtain ⟨ov, hov⟩ : ∃ ov, outN s cu uo = ov := ⟨_, rfl⟩
            obtain ⟨iw, hiw⟩ : ∃ iw, inN s cv vo = iw := ⟨_, rfl⟩
            rw [hov, hiw] at hne
            rw [hov] at o1n
            rw [hiw] at i1n
            rw [hov, hiw]
            have hAf := (hA6.seti ov iw).seti iw ov
            have c0 := hA6.cell ov o1n
            have c1' := hA6.cell iw i1n
            have g0 := hA6.frozen ov
            have g1' := hA6.frozen iw
            have HAF : Hid (Arr ((w6.setCell ⟨gM, ov, none⟩ (.int .i64 (iw : Nat))).setCell ⟨gM, iw, none⟩ (.int .i64 (ov : Nat))) gM 3 (4 * ns) (iv (mRow s l (mAll s vss k) (q + 1)))) := by
              rw [HST2.out, hov, hiw]; exact hAf
            have r1 : (ov : Int) < 4 * (ns : Int) := by omega
            have r2 : (iw : Int) < 4 * (ns : Int) := by omega
            have r3 : (0 : Int) ≤ (ov : Int) := Int.natCast_nonneg _
            have r4 : (0 : Int) ≤ (iw : Int) := Int.natCast_nonneg _
            have bx2 : (w6.setCell ⟨gM, ov, none⟩ (.int .i64 (iw : Nat))).cell? ⟨gB, 1, none⟩ = some (.slice (some ⟨gM, 0, none⟩) (4 * ns) (4 * ns)) := by
              rw [World.cell?_setCell_other _ _ _ _ (fun e => hBM (by injection e with e; exact e.symm))]; exact bx1
            clear hov hiw hAf hA6 CO CI hb5 hb6 hbD hbD5 HAQ HGQ HZ x0 x1 x2 xlt y1 y2 y3 y4 y5 z0 z1 hgr6 bx hbq' HST2
            generalize mRow s l (mAll s vss k) q ov = pv1 at c0
            generalize mRow s l (mAll s vss k) q iw = pv2 at c1'
            have hne' : ¬ iw = ov := fun e => hne e.symm
            go_wp2
            go_roundw
            case rel => exact ⟨q + 1, by omega, by go_num, grown_set (grown_set HGR6.out ov _) iw _, HAF.out⟩
            case measure => simp [intOf]; omega
          · obtain rfl : n1 = q := by omega
            have hAe : Arr wr gM 3 (4 * ns) (iv (mAll s vss (k + 1))) := by rw [← HMN.out]; exact HAQ.out
            have HAE := Lib.hid hAe
            clear hAe hql hq
            go_wp2
            go_roundw
            case rel => exact ⟨k + 1, by omega, by go_num, HGQ.out, HAE.out⟩
            case measure => simp [intOf]; omega
      · obtain rfl : k = nc := by omega
        obtain ⟨r0, r1, r2, rlt⟩ := HR.out
        have hrlt : g1 < wA.heap.size := rlt
        have q0 := (hbr'.cell (p := ⟨g1, 0, none⟩) rlt).trans r0
        have q1 := (hbr'.cell (p := ⟨g1, 1, none⟩) rlt).trans r1
        have q2 := (hbr'.cell (p := ⟨g1, 2, none⟩) rlt).trans r2
        have f0 := (hbr'.frozen (p := ⟨g1, 0, none⟩) rlt).trans (HRF.out 0)
        have f1 := (hbr'.frozen (p := ⟨g1, 1, none⟩) rlt).trans (HRF.out 1)
        have f2 := (hbr'.frozen (p := ⟨g1, 2, none⟩) rlt).trans (HRF.out 2)
        obtain ⟨b0, b1, b2, blt⟩ := HCB.out.grown HGR.out hBM
        obtain ⟨k0, k1, k2⟩ := set3_cells wr g1 (.slice P ns pc) (.slice (some ⟨gM, 0, none⟩) (4 * ns) (4 * ns)) (.int .i64 lp) q0 q1 q2
        have hoF := ((HOP.out.grown HGR.out (.inr HPM.out)).set3 (g := g1) (fun e => by have := (World.ownsRow.lt HOP.out g1 e).1; omega) (.slice P ns pc) (.slice (some ⟨gM, 0, none⟩) (4 * ns) (4 * ns)) (.int .i64 lp)).ri
        have hRF := (arr_mateL (vss := vss) HSL.out (by rw [HCL.out]; exact hA)).set3 (g := g1) (fun b off e => by have := Option.some.inj e; injection this with e1 _ _; omega) (.slice P ns pc) (.slice (some ⟨gM, 0, none⟩) (4 * ns) (4 * ns)) (.int .i64 lp)
        have hbF := set3_below (below_step hb0 hbr') (Nat.le_of_lt hlt1) (.slice P ns pc) (.slice (some ⟨gM, 0, none⟩) (4 * ns) (4 * ns)) (.int .i64 lp)
        have HF : Hid (RDPost vss s lp ns w (.returned (dval P ns pc (some ⟨gM, 0, none⟩) (4 * ns) (4 * ns) lp)) (set3 wr g1 (.slice P ns pc) (.slice (some ⟨gM, 0, none⟩) (4 * ns) (4 * ns)) (.int .i64 lp))) := Lib.hid ⟨P, pc, _, rfl, hoF, hRF, hbF⟩
        clear hoF hRF hbF hA hgr hbr' r0 r1 r2 rlt hlt hk
        go_wp2
        exact bodyPost_ret (v := dval P ns pc (some ⟨gM, 0, none⟩) (4 * ns) (4 * ns) lp) (by simp [results, Tryz.results28, go_sem, k0, k1, k2]) rfl HF.out

end Go.Proofs.YtdacjnmfmhkpiaaGreatDoor
