import Derived.Test.YtebliaclleplgaaA09
import Derived.Test.YtebliaclleplgaaA06
import Derived.Test.YtebliaclleplgaaA11
import Derived.Test.YtebliaclleplgaaA01
/- Walk: the reference's diagram of a code with signs. -/
namespace Go.Proofs.Ytebliaclleplgaa
open Go.RowKit

set_option maxHeartbeats 400000 in
theorem size_any (x : Int) (w : World) (hlo : -9223372036854775808 ≤ x) (hhi : x ≤ 9223372036854775807) :
    Calls Try.prog 27 #[.int .i64 x] w fun e w' => e = .returned (.int .i64 (szI x)) ∧ w = w' := by
  by_cases h0 : x = -9223372036854775808
  · subst h0
    have hw : wrap64 9223372036854775808 = -9223372036854775808 := by decide +kernel
    have e : szI (-9223372036854775808) = -9223372036854775808 := rfl
    rw [e]; clear e
    go_enter Try.func27, Try.ntmps27
    go_wp2
    go_ret
    exact ⟨rfl, rfl⟩
  · by_cases h1 : x < 0
    · have e : szI x = -x := by unfold szI; rw [if_neg h0, if_pos h1]
      rw [e]; clear e
      have hw : IntKind.i64.wrap (-x) = -x := IntWalk.i64_in _ (by omega)
      have h2 : ¬ -x ≤ x := by omega
      have hm : max x (-x) = -x := by omega
      go_enter Try.func27, Try.ntmps27
      go_wp2
      go_ret
      exact ⟨ret_int (by omega), rfl⟩
    · have e : szI x = x := by unfold szI; rw [if_neg h0, if_neg h1]
      rw [e]; clear e
      have hw : IntKind.i64.wrap (-x) = -x := IntWalk.i64_in _ (by omega)
      have hm : max x (-x) = x := by omega
      go_enter Try.func27, Try.ntmps27
      go_wp2
      go_ret
      exact ⟨ret_int (by omega), rfl⟩

theorem grown_drewN {w w' : World} {row : Option Nat} (h : w.grownBy w' row) (n : Nat) : w.grownBy (w'.drewN n) row := ⟨h.os, h.tape, h.output, h.size, h.block⟩
theorem gr_below {wA W w1 : World} {g : Nat} (hg1 : W.grownBy w1 (some g)) (hb : Below wA.heap.size wA W) (hg : wA.heap.size ≤ g) : Below wA.heap.size wA w1 := hb.grown hg1 hb.size (fun k e => by injection e with e; omega)
theorem gr_arr {W w1 : World} {g j n : Nat} (hh : W.heap[j]? = some (.cells (cellsN n fun _ => .int .i64 0) 3 (0, 0))) (hg : W.grownBy w1 (some g)) (hne : j ≠ g) : Arr w1 j 3 n (iv fun _ => 0) :=
  (Arr.grown (V := fun _ => .int .i64 0) hh hg (fun e => by injection e with e; exact hne e.symm)).congr fun _ _ => rfl
theorem gr_box {W w1 : World} {g j : Nat} {t : TypeId} (hh : W.heap[j]? = some (.cells #[.slice none 0 0, .slice none 0 0, .int .i64 0] t (0, 0))) (hg : W.grownBy w1 (some g)) (hne : j ≠ g) : BxAt w1 j := by
  have h := bx_pre hh (Below.refl _ _)
  refine ⟨db_grown h.1 hg hne, fun i => ?_⟩
  exact (hg.frozen_far ⟨j, i, none⟩ h.1.2.2.2 (by simp; omega)).trans (h.2 i)
theorem gr_ne {k g j z : Nat} (h : k = g ∨ k = z) (h1 : j ≠ g) (h2 : j < z) : k ≠ j := by omega
theorem OI.set3w {W : World} {B : Nat} {v : Value} {xs : List Int} (h : OI W B v xs) {g : Nat} (hg : v.ownBlock ≠ some g) (x y z : Value) : OI (Go.Proofs.Ytebliaclleplgaa.set3w W g x y z) B v xs := ((h.far (p := ⟨g, 0, none⟩) hg _).far (p := ⟨g, 1, none⟩) hg _).far (p := ⟨g, 2, none⟩) hg _
/-- What the diagram's box holds when it has been made. -/
def RDMd (wA : World) (s : List Int) (n : Nat) (v : Value) (wX : World) : Prop :=
  ∃ gB S cs gM, v = .pointer (some ⟨gB, 0, none⟩) ∧ wA.heap.size ≤ gB ∧ DB wX gB S n cs (some ⟨gM, 0, none⟩) (4 * n) (4 * n) 0 ∧ OI wX wA.heap.size (.slice S n cs) s ∧ Arr wX gM 3 (4 * n) (iv fun _ => 0) ∧ wA.heap.size ≤ gM ∧ gB ≠ gM ∧ (Value.slice S n cs).ownBlock ≠ some gM ∧ Below wA.heap.size wA wX
theorem rd_new {wA w2 : World} {S : Option Addr} {n cs gM k : Nat} {s : List Int} (t : TypeId) (ho : OI w2 wA.heap.size (.slice S n cs) s) (hk : (Value.slice S n cs).ownBlock = some k) (hm : Arr w2 gM 3 (4 * n) (iv fun _ => 0)) (hgM : wA.heap.size ≤ gM) (hkm : k ≠ gM) (hb : Below wA.heap.size wA w2) :
    RDMd wA s n (.pointer (some ⟨w2.heap.size, 0, none⟩)) (w2.alloc (.cells #[.slice S n cs, .slice (some ⟨gM, 0, none⟩) (4 * n) (4 * n), .int .i64 0] t)) :=
  ⟨w2.heap.size, S, cs, gM, rfl, hb.size, dbNew w2 S n cs (some ⟨gM, 0, none⟩) (4 * n) (4 * n) 0 t, ho.alloc _, hm.alloc _, hgM, by have := hm.lt; omega, fun e => by rw [hk] at e; injection e with e; exact hkm e, below_step hb (below_alloc _ _)⟩
theorem rd_mid {wA w2 : World} {S : Option Addr} {n cs k : Nat} {s : List Int} (t : TypeId) (ho : OI w2 wA.heap.size (.slice S n cs) s) (hk : (Value.slice S n cs).ownBlock = some k) (hkl : k < w2.heap.size) (hb : Below wA.heap.size wA w2) :
    RDMd wA s n (.pointer (some ⟨w2.heap.size, 0, none⟩)) ((w2.alloc (.cells #[.slice S n cs, .slice (some ⟨w2.heap.size + 1, 0, none⟩) (4 * n) (4 * n), .int .i64 0] t)).alloc (.cells (cellsN (4 * n) fun _ => .int .i64 0) 3)) := by
  have h1 := dbNew w2 S n cs (some ⟨w2.heap.size + 1, 0, none⟩) (4 * n) (4 * n) 0 t
  have h2 := arr0 (w2.alloc (.cells #[.slice S n cs, .slice (some ⟨w2.heap.size + 1, 0, none⟩) (4 * n) (4 * n), .int .i64 0] t)) (4 * n)
  rw [show (w2.alloc (.cells #[.slice S n cs, .slice (some ⟨w2.heap.size + 1, 0, none⟩) (4 * n) (4 * n), .int .i64 0] t)).heap.size = w2.heap.size + 1 by simp] at h2
  have hs := hb.size
  exact ⟨w2.heap.size, S, cs, w2.heap.size + 1, rfl, hs, h1.keep (below_alloc _ _), (ho.alloc _).alloc _, h2, by omega, by omega, fun e => by rw [hk] at e; injection e with e; omega, below_step (below_step hb (below_alloc _ _)) (below_alloc _ _)⟩
theorem rd_set {wA w2 : World} {S : Option Addr} {n cs gM gB k : Nat} {s : List Int} (hbx : BxAt w2 gB) (ho : OI w2 wA.heap.size (.slice S n cs) s) (hk : (Value.slice S n cs).ownBlock = some k) (hm : Arr w2 gM 3 (4 * n) (iv fun _ => 0)) (hgM : wA.heap.size ≤ gM) (hgB : wA.heap.size ≤ gB) (hkm : k ≠ gM) (hkd : k ≠ gB) (hne : gB ≠ gM) (hb : Below wA.heap.size wA w2) :
    RDMd wA s n (.pointer (some ⟨gB, 0, none⟩)) (set3w w2 gB (.slice S n cs) (.slice (some ⟨gM, 0, none⟩) (4 * n) (4 * n)) (.int .i64 0)) := by
  obtain ⟨k0, k1, k2⟩ := set3w_bx hbx (.slice S n cs) (.slice (some ⟨gM, 0, none⟩) (4 * n) (4 * n)) (.int .i64 0)
  have hlt := hbx.1.2.2.2
  have hne' : gM ≠ gB := fun e => hne e.symm
  exact ⟨gB, S, cs, gM, rfl, hgB, ⟨k0, k1, k2, by simp [World.setCell]; exact hlt⟩, ho.set3w (fun e => by rw [hk] at e; injection e with e; exact hkd e) _ _ _,
    ((hm.far (p := ⟨gB, 0, none⟩) hne' _).far (p := ⟨gB, 1, none⟩) hne' _).far (p := ⟨gB, 2, none⟩) hne' _, hgM, hne, fun e => by rw [hk] at e; injection e with e; exact hkm e, set3w_below hb hgB _ _ _⟩
theorem rd_aft {wA w1 : World} {S : Option Addr} {n cs k : Nat} {s : List Int} (t : TypeId) (ho : OI w1 wA.heap.size (.slice S n cs) s) (hk : (Value.slice S n cs).ownBlock = some k) (hkl : k < w1.heap.size) (hb : Below wA.heap.size wA w1) :
    RDMd wA s n (.pointer (some ⟨w1.heap.size + 1, 0, none⟩)) ((w1.alloc (.cells (cellsN (4 * n) fun _ => .int .i64 0) 3)).alloc (.cells #[.slice S n cs, .slice (some ⟨w1.heap.size, 0, none⟩) (4 * n) (4 * n), .int .i64 0] t)) := by
  have h := rd_new t (ho.alloc (.cells (cellsN (4 * n) fun _ => .int .i64 0) 3)) hk (arr0 w1 (4 * n)) hb.size (Nat.ne_of_lt hkl) (below_step hb (below_alloc _ _))
  rw [show (w1.alloc (.cells (cellsN (4 * n) fun _ => .int .i64 0) 3)).heap.size = w1.heap.size + 1 by simp] at h
  exact h
theorem rd_setm {wA w1 : World} {S : Option Addr} {n cs gB k : Nat} {s : List Int} (hbx : BxAt w1 gB) (ho : OI w1 wA.heap.size (.slice S n cs) s) (hk : (Value.slice S n cs).ownBlock = some k) (hkl : k < w1.heap.size) (hgB : wA.heap.size ≤ gB) (hkd : k ≠ gB) (hb : Below wA.heap.size wA w1) :
    RDMd wA s n (.pointer (some ⟨gB, 0, none⟩)) (set3w (w1.alloc (.cells (cellsN (4 * n) fun _ => .int .i64 0) 3)) gB (.slice S n cs) (.slice (some ⟨w1.heap.size, 0, none⟩) (4 * n) (4 * n)) (.int .i64 0)) :=
  rd_set (hbx.al _) (ho.alloc _) hk (arr0 w1 (4 * n)) hb.size hgB (Nat.ne_of_lt hkl) hkd (Nat.ne_of_lt hbx.1.2.2.2) (below_step hb (below_alloc _ _))
/-- The two lists of half-edges have been made. -/
def TwoMd (wA : World) (L : Nat) (u v : Value) (wX : World) : Prop :=
  ∃ gI gO, u = .slice (some ⟨gI, 0, none⟩) L L ∧ v = .slice (some ⟨gO, 0, none⟩) L L ∧ Arr wX gI 3 L (iv fun _ => 0) ∧ Arr wX gO 3 L (iv fun _ => 0) ∧ gI ≠ gO ∧ wA.heap.size ≤ gI ∧ wA.heap.size ≤ gO ∧ Below wA.heap.size wA wX

theorem two_md {wA W : World} {L : Nat} (hW : W = ((wA.alloc (.cells (cellsN L fun _ => .int .i64 0) 3)).alloc (.cells (cellsN L fun _ => .int .i64 0) 3)) ∨ W = ((wA.alloc (.cells (cellsN L fun _ => .int .i64 0) 3)).alloc (.cells (cellsN L fun _ => .int .i64 0) 3)).drew) :
    TwoMd wA L (.slice (some ⟨wA.heap.size, 0, none⟩) L L) (.slice (some ⟨wA.heap.size + 1, 0, none⟩) L L) W ∧ TwoMd wA L (.slice (some ⟨wA.heap.size + 1, 0, none⟩) L L) (.slice (some ⟨wA.heap.size, 0, none⟩) L L) W := by
  have h1 := (arr0 wA L).alloc (.cells (cellsN L fun _ => .int .i64 0) 3)
  have h2 := arr0 (wA.alloc (.cells (cellsN L fun _ => .int .i64 0) 3)) L
  rw [show (wA.alloc (.cells (cellsN L fun _ => .int .i64 0) 3)).heap.size = wA.heap.size + 1 by simp] at h2
  have hb := below_step (below_alloc wA (.cells (cellsN L fun _ => .int .i64 0) 3)) (below_alloc _ (.cells (cellsN L fun _ => .int .i64 0) 3))
  rcases hW with rfl | rfl
  · exact ⟨⟨_, _, rfl, rfl, h1, h2, by omega, by omega, by omega, hb⟩, ⟨_, _, rfl, rfl, h2, h1, by omega, by omega, by omega, hb⟩⟩
  · exact ⟨⟨_, _, rfl, rfl, h1.drew, h2.drew, by omega, by omega, by omega, hb.drew⟩, ⟨_, _, rfl, rfl, h2.drew, h1.drew, by omega, by omega, by omega, hb.drew⟩⟩

set_option maxHeartbeats 6400000 in
set_option maxRecDepth 100000 in
theorem rdrawn_any (A C : Option Addr) (n cs cc : Nat) (code s : List Int) (w : World) (hC : RI w C n code) (hs : RI w A n s) (h64 : n ≤ 64) (hI : inL code) (hv : dvB code = true) (hsg : sgnsB s = true) :
    Calls Try.prog 24 #[.slice C n cc, .slice A n cs] w fun e w' => ∃ S sc gM, e = .returned (dval S n sc (some ⟨gM, 0, none⟩) (4 * n) (4 * n) 0) ∧ RI w' S n s ∧ RI w' (some ⟨gM, 0, none⟩) (4 * n) (mkM code s) ∧ Below w.heap.size w w' := by
  have hpos : 0 < n := by have := (dvB_iff code).1 hv; have := hC.1; omega
  have hn1 : (n : Int) ≤ 64 := by omega
  have hn0 : (0 : Int) < (n : Int) := by omega
  have hb0 := below_alloc w (.cells #[.slice none 0 0, .slice none 0 0, .int .i64 0] 24)
  have hr0 := bx_new w
  have HC := Lib.hid (hC.keep hb0)
  have hs1 := hs.keep hb0
  have hmk4 : ∀ W, (Instr.makeSlice 22 (.int .i64 (4 * (n : Int))) (.int .i64 (4 * (n : Int)))).run Try.prog W = .ok (.slice (some ⟨W.heap.size, 0, none⟩) (4 * n) (4 * n)) (W.alloc (.cells (cellsN (4 * n) fun _ => .int .i64 0) 3)) := fun W => by
    have := make_one (P := Try.prog) Try.underlying22 Try.infoInt rfl (4 * n) (by omega) (by omega) W
    rw [show ((4 * n : Nat) : Int) = 4 * (n : Int) by omega] at this
    exact this
  have hmk2 : ∀ W, (Instr.makeSlice 22 (.int .i64 (2 * (n : Int))) (.int .i64 (2 * (n : Int)))).run Try.prog W = .ok (.slice (some ⟨W.heap.size, 0, none⟩) (2 * n) (2 * n)) (W.alloc (.cells (cellsN (2 * n) fun _ => .int .i64 0) 3)) := fun W => by
    have := make_one (P := Try.prog) Try.underlying22 Try.infoInt rfl (2 * n) (by omega) (by omega) W
    rw [show ((2 * n : Nat) : Int) = 2 * (n : Int) by omega] at this
    exact this
  have HI := Lib.hid hI
  have HV := Lib.hid hv
  have HSG := Lib.hid hsg
  clear hC hs hI hv hsg
  go_enter Try.func24, Try.ntmps24
  go_upto_region 2 with fail
  have hszr : w.heap.size < (w.alloc (.cells #[.slice none 0 0, .slice none 0 0, .int .i64 0] 24)).heap.size := by simp
  generalize w.alloc (.cells #[.slice none 0 0, .slice none 0 0, .int .i64 0] 24) = wA at *
  have HR := Lib.hid hr0
  have HS1 := Lib.hid hs1
  have hw4 : IntKind.i64.wrap (4 * (n : Int)) = 4 * (n : Int) := IntWalk.i64_in _ (by omega)
  have hw2 : IntKind.i64.wrap (2 * (n : Int)) = 2 * (n : Int) := IntWalk.i64_in _ (by omega)
  clear hr0
  go_cut [6] (fun v wX => RDMd wA s n v wX)
  case first =>
    go_region_held3 (fun _ => True)
      (first | exact trivial | go_keep)
      (first
        | (refine dk_append_new rfl (.tmp 17) (.tmp 18) rfl wA.heap.size (wA.heap.size) (by rfl) (by exact heap_alloc_new wA _) (by exact Nat.le_refl _) A n cs s (by rfl) (by exact (hs1.alloc _).drew) (by omega) ?_; intro A1 c1 w1 k1 ho1 hk1 hat1 hkl1 hgr1; have hbB : Below wA.heap.size wA w1 := gr_below (W := (wA.alloc (.cells #[] 3)).drew) hgr1 (pb1 wA _) (Nat.le_refl _))
        | (refine dk_append_new rfl (.tmp 17) (.tmp 18) rfl wA.heap.size (wA.heap.size) (by rfl) (by exact heap2_0 wA _ _) (by exact Nat.le_refl _) A n cs s (by rfl) (by exact ((hs1.alloc _).alloc _).drew) (by omega) ?_; intro A1 c1 w1 k1 ho1 hk1 hat1 hkl1 hgr1; have hbB : Below wA.heap.size wA w1 := gr_below (W := ((wA.alloc (.cells #[] 3)).alloc (.cells (cellsN (4 * n) fun _ => .int .i64 0) 3)).drew) hgr1 (pb2 wA _ _) (Nat.le_refl _); have hm1 := gr_arr (W := ((wA.alloc (.cells #[] 3)).alloc (.cells (cellsN (4 * n) fun _ => .int .i64 0) 3)).drew) (heap2_1 wA _ _) hgr1 (by omega); have hkm : k1 ≠ wA.heap.size + 1 := gr_ne hat1 (by omega) (by simp <;> omega))
        | (refine dk_append_new rfl (.tmp 17) (.tmp 18) rfl wA.heap.size (wA.heap.size + 1) (by rfl) (by exact heap2_1 wA _ _) (by exact Nat.le_succ _) A n cs s (by rfl) (by exact ((hs1.alloc _).alloc _).drew) (by omega) ?_; intro A1 c1 w1 k1 ho1 hk1 hat1 hkl1 hgr1; have hbB : Below wA.heap.size wA w1 := gr_below (W := ((wA.alloc (.cells (cellsN (4 * n) fun _ => .int .i64 0) 3)).alloc (.cells #[] 3)).drew) hgr1 (pb2 wA _ _) (Nat.le_succ _); have hm1 := gr_arr (W := ((wA.alloc (.cells (cellsN (4 * n) fun _ => .int .i64 0) 3)).alloc (.cells #[] 3)).drew) (heap2_0 wA _ _) hgr1 (by omega); have hkm : k1 ≠ wA.heap.size := gr_ne hat1 (by omega) (by simp <;> omega))
        | (refine dk_append_new rfl (.tmp 17) (.tmp 18) rfl wA.heap.size (wA.heap.size) (by rfl) (by exact heap2_0 wA _ _) (by exact Nat.le_refl _) A n cs s (by rfl) (by exact ((hs1.alloc _).alloc _).drew) (by omega) ?_; intro A1 c1 w1 k1 ho1 hk1 hat1 hkl1 hgr1; have hbB : Below wA.heap.size wA w1 := gr_below (W := ((wA.alloc (.cells #[] 3)).alloc (.cells #[.slice none 0 0, .slice none 0 0, .int .i64 0] 24)).drew) hgr1 (pb2 wA _ _) (Nat.le_refl _); have hbx : BxAt w1 (wA.heap.size + 1) := gr_box (W := ((wA.alloc (.cells #[] 3)).alloc (.cells #[.slice none 0 0, .slice none 0 0, .int .i64 0] 24)).drew) (heap2_1 wA _ _) hgr1 (by omega); have hkd : k1 ≠ wA.heap.size + 1 := gr_ne hat1 (by omega) (by simp <;> omega); have q0 := hbx.1.1; have q1 := hbx.1.2.1; have q2 := hbx.1.2.2.1; have f0 := hbx.2 0; have f1 := hbx.2 1; have f2 := hbx.2 2; have hby := hbx.al (.cells (cellsN (4 * n) fun _ => .int .i64 0) 3); have p0 := hby.1.1; have p1 := hby.1.2.1; have p2 := hby.1.2.2.1; have e0 := hby.2 0; have e1 := hby.2 1; have e2 := hby.2 2)
        | (refine dk_append_new rfl (.tmp 17) (.tmp 18) rfl wA.heap.size (wA.heap.size + 1) (by rfl) (by exact heap2_1 wA _ _) (by exact Nat.le_succ _) A n cs s (by rfl) (by exact ((hs1.alloc _).alloc _).drew) (by omega) ?_; intro A1 c1 w1 k1 ho1 hk1 hat1 hkl1 hgr1; have hbB : Below wA.heap.size wA w1 := gr_below (W := ((wA.alloc (.cells #[.slice none 0 0, .slice none 0 0, .int .i64 0] 24)).alloc (.cells #[] 3)).drew) hgr1 (pb2 wA _ _) (Nat.le_succ _); have hbx : BxAt w1 (wA.heap.size) := gr_box (W := ((wA.alloc (.cells #[.slice none 0 0, .slice none 0 0, .int .i64 0] 24)).alloc (.cells #[] 3)).drew) (heap2_0 wA _ _) hgr1 (by omega); have hkd : k1 ≠ wA.heap.size := gr_ne hat1 (by omega) (by simp <;> omega); have q0 := hbx.1.1; have q1 := hbx.1.2.1; have q2 := hbx.1.2.2.1; have f0 := hbx.2 0; have f1 := hbx.2 1; have f2 := hbx.2 2; have hby := hbx.al (.cells (cellsN (4 * n) fun _ => .int .i64 0) 3); have p0 := hby.1.1; have p1 := hby.1.2.1; have p2 := hby.1.2.2.1; have e0 := hby.2 0; have e1 := hby.2 1; have e2 := hby.2 2)
        | (refine dk_append_new rfl (.tmp 17) (.tmp 18) rfl wA.heap.size (wA.heap.size) (by rfl) (by exact heap3_0 wA _ _ _) (by exact Nat.le_refl _) A n cs s (by rfl) (by exact (((hs1.alloc _).alloc _).alloc _).drew) (by omega) ?_; intro A1 c1 w1 k1 ho1 hk1 hat1 hkl1 hgr1; have hbB : Below wA.heap.size wA w1 := gr_below (W := (((wA.alloc (.cells #[] 3)).alloc (.cells (cellsN (4 * n) fun _ => .int .i64 0) 3)).alloc (.cells #[.slice none 0 0, .slice none 0 0, .int .i64 0] 24)).drew) hgr1 (pb3 wA _ _ _) (Nat.le_refl _); have hm1 := gr_arr (W := (((wA.alloc (.cells #[] 3)).alloc (.cells (cellsN (4 * n) fun _ => .int .i64 0) 3)).alloc (.cells #[.slice none 0 0, .slice none 0 0, .int .i64 0] 24)).drew) (heap3_1 wA _ _ _) hgr1 (by omega); have hkm : k1 ≠ wA.heap.size + 1 := gr_ne hat1 (by omega) (by simp <;> omega); have hbx : BxAt w1 (wA.heap.size + 2) := gr_box (W := (((wA.alloc (.cells #[] 3)).alloc (.cells (cellsN (4 * n) fun _ => .int .i64 0) 3)).alloc (.cells #[.slice none 0 0, .slice none 0 0, .int .i64 0] 24)).drew) (heap3_2 wA _ _ _) hgr1 (by omega); have hkd : k1 ≠ wA.heap.size + 2 := gr_ne hat1 (by omega) (by simp <;> omega); have q0 := hbx.1.1; have q1 := hbx.1.2.1; have q2 := hbx.1.2.2.1; have f0 := hbx.2 0; have f1 := hbx.2 1; have f2 := hbx.2 2)
        | (refine dk_append_new rfl (.tmp 17) (.tmp 18) rfl wA.heap.size (wA.heap.size) (by rfl) (by exact heap3_0 wA _ _ _) (by exact Nat.le_refl _) A n cs s (by rfl) (by exact (((hs1.alloc _).alloc _).alloc _).drew) (by omega) ?_; intro A1 c1 w1 k1 ho1 hk1 hat1 hkl1 hgr1; have hbB : Below wA.heap.size wA w1 := gr_below (W := (((wA.alloc (.cells #[] 3)).alloc (.cells #[.slice none 0 0, .slice none 0 0, .int .i64 0] 24)).alloc (.cells (cellsN (4 * n) fun _ => .int .i64 0) 3)).drew) hgr1 (pb3 wA _ _ _) (Nat.le_refl _); have hm1 := gr_arr (W := (((wA.alloc (.cells #[] 3)).alloc (.cells #[.slice none 0 0, .slice none 0 0, .int .i64 0] 24)).alloc (.cells (cellsN (4 * n) fun _ => .int .i64 0) 3)).drew) (heap3_2 wA _ _ _) hgr1 (by omega); have hkm : k1 ≠ wA.heap.size + 2 := gr_ne hat1 (by omega) (by simp <;> omega); have hbx : BxAt w1 (wA.heap.size + 1) := gr_box (W := (((wA.alloc (.cells #[] 3)).alloc (.cells #[.slice none 0 0, .slice none 0 0, .int .i64 0] 24)).alloc (.cells (cellsN (4 * n) fun _ => .int .i64 0) 3)).drew) (heap3_1 wA _ _ _) hgr1 (by omega); have hkd : k1 ≠ wA.heap.size + 1 := gr_ne hat1 (by omega) (by simp <;> omega); have q0 := hbx.1.1; have q1 := hbx.1.2.1; have q2 := hbx.1.2.2.1; have f0 := hbx.2 0; have f1 := hbx.2 1; have f2 := hbx.2 2)
        | (refine dk_append_new rfl (.tmp 17) (.tmp 18) rfl wA.heap.size (wA.heap.size + 1) (by rfl) (by exact heap3_1 wA _ _ _) (by exact Nat.le_succ _) A n cs s (by rfl) (by exact (((hs1.alloc _).alloc _).alloc _).drew) (by omega) ?_; intro A1 c1 w1 k1 ho1 hk1 hat1 hkl1 hgr1; have hbB : Below wA.heap.size wA w1 := gr_below (W := (((wA.alloc (.cells (cellsN (4 * n) fun _ => .int .i64 0) 3)).alloc (.cells #[] 3)).alloc (.cells #[.slice none 0 0, .slice none 0 0, .int .i64 0] 24)).drew) hgr1 (pb3 wA _ _ _) (Nat.le_succ _); have hm1 := gr_arr (W := (((wA.alloc (.cells (cellsN (4 * n) fun _ => .int .i64 0) 3)).alloc (.cells #[] 3)).alloc (.cells #[.slice none 0 0, .slice none 0 0, .int .i64 0] 24)).drew) (heap3_0 wA _ _ _) hgr1 (by omega); have hkm : k1 ≠ wA.heap.size := gr_ne hat1 (by omega) (by simp <;> omega); have hbx : BxAt w1 (wA.heap.size + 2) := gr_box (W := (((wA.alloc (.cells (cellsN (4 * n) fun _ => .int .i64 0) 3)).alloc (.cells #[] 3)).alloc (.cells #[.slice none 0 0, .slice none 0 0, .int .i64 0] 24)).drew) (heap3_2 wA _ _ _) hgr1 (by omega); have hkd : k1 ≠ wA.heap.size + 2 := gr_ne hat1 (by omega) (by simp <;> omega); have q0 := hbx.1.1; have q1 := hbx.1.2.1; have q2 := hbx.1.2.2.1; have f0 := hbx.2 0; have f1 := hbx.2 1; have f2 := hbx.2 2)
        | (refine dk_append_new rfl (.tmp 17) (.tmp 18) rfl wA.heap.size (wA.heap.size + 2) (by rfl) (by exact heap3_2 wA _ _ _) (by exact Nat.le_add_right _ _) A n cs s (by rfl) (by exact (((hs1.alloc _).alloc _).alloc _).drew) (by omega) ?_; intro A1 c1 w1 k1 ho1 hk1 hat1 hkl1 hgr1; have hbB : Below wA.heap.size wA w1 := gr_below (W := (((wA.alloc (.cells (cellsN (4 * n) fun _ => .int .i64 0) 3)).alloc (.cells #[.slice none 0 0, .slice none 0 0, .int .i64 0] 24)).alloc (.cells #[] 3)).drew) hgr1 (pb3 wA _ _ _) (Nat.le_add_right _ _); have hm1 := gr_arr (W := (((wA.alloc (.cells (cellsN (4 * n) fun _ => .int .i64 0) 3)).alloc (.cells #[.slice none 0 0, .slice none 0 0, .int .i64 0] 24)).alloc (.cells #[] 3)).drew) (heap3_0 wA _ _ _) hgr1 (by omega); have hkm : k1 ≠ wA.heap.size := gr_ne hat1 (by omega) (by simp <;> omega); have hbx : BxAt w1 (wA.heap.size + 1) := gr_box (W := (((wA.alloc (.cells (cellsN (4 * n) fun _ => .int .i64 0) 3)).alloc (.cells #[.slice none 0 0, .slice none 0 0, .int .i64 0] 24)).alloc (.cells #[] 3)).drew) (heap3_1 wA _ _ _) hgr1 (by omega); have hkd : k1 ≠ wA.heap.size + 1 := gr_ne hat1 (by omega) (by simp <;> omega); have q0 := hbx.1.1; have q1 := hbx.1.2.1; have q2 := hbx.1.2.2.1; have f0 := hbx.2 0; have f1 := hbx.2 1; have f2 := hbx.2 2)
        | (refine dk_append_new rfl (.tmp 17) (.tmp 18) rfl wA.heap.size (wA.heap.size + 1) (by rfl) (by exact heap3_1 wA _ _ _) (by exact Nat.le_succ _) A n cs s (by rfl) (by exact (((hs1.alloc _).alloc _).alloc _).drew) (by omega) ?_; intro A1 c1 w1 k1 ho1 hk1 hat1 hkl1 hgr1; have hbB : Below wA.heap.size wA w1 := gr_below (W := (((wA.alloc (.cells #[.slice none 0 0, .slice none 0 0, .int .i64 0] 24)).alloc (.cells #[] 3)).alloc (.cells (cellsN (4 * n) fun _ => .int .i64 0) 3)).drew) hgr1 (pb3 wA _ _ _) (Nat.le_succ _); have hm1 := gr_arr (W := (((wA.alloc (.cells #[.slice none 0 0, .slice none 0 0, .int .i64 0] 24)).alloc (.cells #[] 3)).alloc (.cells (cellsN (4 * n) fun _ => .int .i64 0) 3)).drew) (heap3_2 wA _ _ _) hgr1 (by omega); have hkm : k1 ≠ wA.heap.size + 2 := gr_ne hat1 (by omega) (by simp <;> omega); have hbx : BxAt w1 (wA.heap.size) := gr_box (W := (((wA.alloc (.cells #[.slice none 0 0, .slice none 0 0, .int .i64 0] 24)).alloc (.cells #[] 3)).alloc (.cells (cellsN (4 * n) fun _ => .int .i64 0) 3)).drew) (heap3_0 wA _ _ _) hgr1 (by omega); have hkd : k1 ≠ wA.heap.size := gr_ne hat1 (by omega) (by simp <;> omega); have q0 := hbx.1.1; have q1 := hbx.1.2.1; have q2 := hbx.1.2.2.1; have f0 := hbx.2 0; have f1 := hbx.2 1; have f2 := hbx.2 2)
        | (refine dk_append_new rfl (.tmp 17) (.tmp 18) rfl wA.heap.size (wA.heap.size + 2) (by rfl) (by exact heap3_2 wA _ _ _) (by exact Nat.le_add_right _ _) A n cs s (by rfl) (by exact (((hs1.alloc _).alloc _).alloc _).drew) (by omega) ?_; intro A1 c1 w1 k1 ho1 hk1 hat1 hkl1 hgr1; have hbB : Below wA.heap.size wA w1 := gr_below (W := (((wA.alloc (.cells #[.slice none 0 0, .slice none 0 0, .int .i64 0] 24)).alloc (.cells (cellsN (4 * n) fun _ => .int .i64 0) 3)).alloc (.cells #[] 3)).drew) hgr1 (pb3 wA _ _ _) (Nat.le_add_right _ _); have hm1 := gr_arr (W := (((wA.alloc (.cells #[.slice none 0 0, .slice none 0 0, .int .i64 0] 24)).alloc (.cells (cellsN (4 * n) fun _ => .int .i64 0) 3)).alloc (.cells #[] 3)).drew) (heap3_1 wA _ _ _) hgr1 (by omega); have hkm : k1 ≠ wA.heap.size + 1 := gr_ne hat1 (by omega) (by simp <;> omega); have hbx : BxAt w1 (wA.heap.size) := gr_box (W := (((wA.alloc (.cells #[.slice none 0 0, .slice none 0 0, .int .i64 0] 24)).alloc (.cells (cellsN (4 * n) fun _ => .int .i64 0) 3)).alloc (.cells #[] 3)).drew) (heap3_0 wA _ _ _) hgr1 (by omega); have hkd : k1 ≠ wA.heap.size := gr_ne hat1 (by omega) (by simp <;> omega); have q0 := hbx.1.1; have q1 := hbx.1.2.1; have q2 := hbx.1.2.2.1; have f0 := hbx.2 0; have f1 := hbx.2 1; have f2 := hbx.2 2)
      )
    all_goals go_wp2_with fail
    all_goals go_meet
    all_goals first
      | with_reducible exact rd_aft _ ho1 hk1 hkl1 hbB
      | with_reducible exact rd_mid _ ho1 hk1 hkl1 hbB
      | (with_reducible refine rd_new _ ho1 hk1 hm1 ?_ hkm hbB; omega)
      | (with_reducible refine rd_setm hbx ho1 hk1 hkl1 ?_ hkd hbB; omega)
      | (with_reducible refine rd_set hbx ho1 hk1 hm1 ?_ ?_ hkm hkd ?_ hbB <;> omega)
  case rest =>
    obtain ⟨gB, S, sc, gM, rfl, hgB, hcb, hoS, hA0, hgM, hBM, hSM, hbX⟩ := hcut
    obtain ⟨wB, hwB⟩ : ∃ wB : World, wB = wc := ⟨_, rfl⟩
    subst hwB
    clear hmk4 hw4 hs1
    go_upto_region 3 with fail
    go_cut [7, 8] (fun u v wX => TwoMd wB (2 * n) u v wX)
    case first =>
      go_region
      all_goals go_wp2_with fail
      all_goals go_meet
      all_goals first
        | exact (two_md (.inl rfl)).1
        | exact (two_md (.inr rfl)).1
        | exact (two_md (.inl rfl)).2
        | exact (two_md (.inr rfl)).2
    case rest =>
      obtain ⟨gI, gO, rfl, rfl, hI0, hO0, hIO, hgI, hgO, hbT⟩ := hcut
      have HCB := Lib.hid hcb
      have HOS := Lib.hid hoS
      have HAM := Lib.hid hA0
      have HR2 := Lib.hid (HR.out.kp hbX)
      have HC2 := Lib.hid (HC.out.keep hbX)
      have HS2 := Lib.hid (HS1.out.keep hbX)
      have hBl := hcb.2.2.2
      have hMl := hA0.lt
      have hI0' : Arr wc gI 3 (2 * n) (iv (inN code s 0)) := hI0.congr fun _ _ => rfl
      have hO0' : Arr wc gO 3 (2 * n) (iv (exN code s 0)) := hO0.congr fun _ _ => rfl
      obtain ⟨bC, oC, rfl, hbC, hcC⟩ := HC2.out.2 hpos
      obtain ⟨bA, oA, rfl, hbAB, hcA⟩ := HS2.out.2 hpos
      have HCC := Lib.hid hcC
      have HCA := Lib.hid hcA
      have hl := HC.out.1
      have hls := HS1.out.1
      have hd := fun i (hi : i < n) => dhalf_eq HV.out (i := i) (by omega)
      rw [hl] at hd
      have HD := Lib.hid hd
      have HL1 := Lib.hid hl
      have HL2 := Lib.hid hls
      obtain ⟨L, hL⟩ : ∃ L, 2 * n = L := ⟨_, rfl⟩
      have HL := Lib.hid hL
      have hLi : 2 * (n : Int) = (L : Int) := by omega
      rw [hL] at hI0' hO0' ⊢
      have hL1 : (L : Int) ≤ 128 := by omega
      have hL0 : 0 < L := by omega
      have hB0 := hbX.size
      clear hL hcC hcA hcb hoS hA0 hI0 hO0 hmk2 hw2 hd hl hls
      go_wp2
      go_loopw [9, 10, 11] (fun i _ _ wr => ∃ k : Nat, k ≤ n ∧ i = .int .i64 k ∧ Below wB.heap.size wB wr ∧ Arr wr gI 3 L (iv (inN code s k)) ∧ Arr wr gO 3 L (iv (exN code s k))) (fun i _ _ _ => n - (intOf i).toNat)
      case atStart => exact ⟨0, by omega, rfl, hbT, hI0', hO0'⟩
      case round =>
        obtain ⟨k, hk, rfl, hbr, hIk, hOk⟩ := hrel
        by_cases hlt : k < n
        · have hcC0 : wr.cell? ⟨bC, oC + k, none⟩ = some (.int .i64 (code.getD k 0)) := (hbr.cell (p := ⟨bC, oC + k, none⟩) hbC).trans (HCC.out k hlt)
          have hcA0 : wB.cell? ⟨bA, oA + k, none⟩ = some (.int .i64 (s.getD k 0)) := HCA.out k hlt
          obtain ⟨hsz, hdl⟩ := HD.out k hlt
          have hIc := HI.out k
          have hsk := sg_cases HSG.out (i := k) (by rw [HL2.out]; exact hlt)
          have CE := size_any (code.getD k 0) wr hIc.1 hIc.2
          have hin : inN code s (k + 1) = upd (upd (inN code s k) (unN code k) (4 * k)) (ovN code k) (trn (4 * k + soN (s.getD k 0)) 2) := rfl
          have hex : exN code s (k + 1) = upd (upd (exN code s k) (ovN code k) (4 * k + soN (s.getD k 0))) (unN code k) (4 * k + 2) := rfl
          unfold ovN unN at hin hex
          have hkL : 2 * k < L := by have := HL.out; omega
          have hqL : 2 * dhalf code k + 1 < L := by have := HL.out; omega
          obtain ⟨x, hx⟩ : ∃ x, code.getD k 0 = x := ⟨_, rfl⟩
          obtain ⟨q, hq⟩ : ∃ q, 2 * dhalf code k + 1 = q := ⟨_, rfl⟩
          have hqp : q % 2 = 1 := by omega
          have HQP : Hid (q ≠ 2 * k) := Lib.hid (by omega)
          have hs2 : szI x = (q : Int) + 1 := by rw [← hx, hsz]; omega
          rw [hx] at hcC0 CE hin hex
          rw [hq] at hqL hin hex
          rw [hs2] at CE
          have HCE := Lib.hid CE
          clear CE hsz hdl hx hq hs2 hIc hI0' hO0' hqp
          have hk0 : (0 : Int) ≤ (k : Int) := Int.natCast_nonneg _
          have hk1 : (k : Int) < (n : Int) := by omega
          have hq0 : (0 : Int) ≤ (q : Int) := Int.natCast_nonneg _
          have hq1 : (q : Int) < (L : Int) := by omega
          have hkL1 : 2 * (k : Int) < (L : Int) := by omega
          have ht : (2 * (k : Int)).toNat = 2 * k := by omega
          have hqk := HQP.out
          by_cases hneg : x < 0
          · rw [if_pos hneg, if_pos hneg] at hin hex
            rcases hsk with hy | hy
            · rw [hy] at hin hex hcA0
              rw [show soN 1 = 1 from rfl, show trn (4 * k + 1) 2 = 4 * k + 3 by unfold trn; omega] at hin
              rw [show soN 1 = 1 from rfl] at hex
              have HIN := Lib.hid hin
              have HEX := Lib.hid hex
              clear hin hex hy
              have a1 := hIk.frozen (2 * k)
              have b1 := hIk.cell (2 * k) hkL
              have O1 := hOk.far (p := ⟨gI, 2 * k, none⟩) (by show gO ≠ gI; omega) (.int .i64 (4 * (k : Int)))
              have a2 := O1.frozen (2 * k)
              have b2 := O1.cell (2 * k) hkL
              have HI2 := Lib.hid ((hIk.setz (2 * k) (4 * (k : Int))).far (p := ⟨gO, 2 * k, none⟩) (by show gI ≠ gO; omega) (.int .i64 (4 * (k : Int) + 2)))
              have HO2 := Lib.hid (O1.setz (2 * k) (4 * (k : Int) + 2))
              have HB2 := Lib.hid (below_set (below_set hbr (g := gI) (i := 2 * k) (by omega) (.int .i64 (4 * (k : Int)))) (g := gO) (i := 2 * k) (by omega) (.int .i64 (4 * (k : Int) + 2)))
              clear O1 hIk hOk hbr
              go_upto_region 11 with (go_at_call 27; ((with_reducible refine HCE.out.mono ?_); rintro e w1 ⟨rfl, rfl⟩))
              clear a1 b1 a2 b2 hcC0 HCE
              generalize (wr.setCell ⟨gI, 2 * k, none⟩ (.int .i64 (4 * (k : Int)))).setCell ⟨gO, 2 * k, none⟩ (.int .i64 (4 * (k : Int) + 2)) = W2 at HI2 HO2 HB2 ⊢
              have a3 := HI2.out.frozen (q)
              have b3 := HI2.out.cell (q) hqL
              have O3 := HO2.out.far (p := ⟨gI, q, none⟩) (by show gO ≠ gI; omega) (.int .i64 (4 * (k : Int) + 3))
              have a4 := O3.frozen (q)
              have b4 := O3.cell (q) hqL
              have HI4 := Lib.hid ((HI2.out.setz (q) (4 * (k : Int) + 3)).far (p := ⟨gO, q, none⟩) (by show gI ≠ gO; omega) (.int .i64 (4 * (k : Int) + 1)))
              have HO4 := Lib.hid (O3.setz (q) (4 * (k : Int) + 1))
              have HB4 := Lib.hid (below_set (below_set HB2.out (g := gI) (i := q) (by omega) (.int .i64 (4 * (k : Int) + 3))) (g := gO) (i := q) (by omega) (.int .i64 (4 * (k : Int) + 1)))
              clear O3
              go_upto_region 12 with fail
              clear a3 b3 a4 b4
              generalize (W2.setCell ⟨gI, q, none⟩ (.int .i64 (4 * (k : Int) + 3))).setCell ⟨gO, q, none⟩ (.int .i64 (4 * (k : Int) + 1)) = W4 at HI4 HO4 HB4 ⊢
              have cA4 : W4.cell? ⟨bA, oA + k, none⟩ = some (.int .i64 (1)) := (HB4.out.cell (p := ⟨bA, oA + k, none⟩) hbAB).trans hcA0
              have HI5 := Lib.hid (HI4.out.congr (V' := iv (inN code s (k + 1))) fun i _ => by
                simp only [zv, iv]
                rw [HIN.out, upd_cast (inN code s k) (2 * k) (q) (4 * k) (4 * k + 3) (4 * (k : Int)) (4 * (k : Int) + 3) (by omega) (by omega) i])
              have HO5 := Lib.hid (HO4.out.congr (V' := iv (exN code s (k + 1))) fun i _ => by
                simp only [zv, iv]
                rw [HEX.out, upd_swap (by omega), upd_cast (exN code s k) (2 * k) (q) (4 * k + 2) (4 * k + 1) (4 * (k : Int) + 2) (4 * (k : Int) + 1) (by omega) (by omega) i])
              go_wp2
              go_roundw
              case rel => exact ⟨k + 1, by omega, by go_num, HB4.out, HI5.out, HO5.out⟩
              case measure => simp [intOf]; omega
            · rw [hy] at hin hex hcA0
              rw [show soN (-1) = 3 from rfl, show trn (4 * k + 3) 2 = 4 * k + 1 by unfold trn; omega] at hin
              rw [show soN (-1) = 3 from rfl] at hex
              have HIN := Lib.hid hin
              have HEX := Lib.hid hex
              clear hin hex hy
              have a1 := hIk.frozen (2 * k)
              have b1 := hIk.cell (2 * k) hkL
              have O1 := hOk.far (p := ⟨gI, 2 * k, none⟩) (by show gO ≠ gI; omega) (.int .i64 (4 * (k : Int)))
              have a2 := O1.frozen (2 * k)
              have b2 := O1.cell (2 * k) hkL
              have HI2 := Lib.hid ((hIk.setz (2 * k) (4 * (k : Int))).far (p := ⟨gO, 2 * k, none⟩) (by show gI ≠ gO; omega) (.int .i64 (4 * (k : Int) + 2)))
              have HO2 := Lib.hid (O1.setz (2 * k) (4 * (k : Int) + 2))
              have HB2 := Lib.hid (below_set (below_set hbr (g := gI) (i := 2 * k) (by omega) (.int .i64 (4 * (k : Int)))) (g := gO) (i := 2 * k) (by omega) (.int .i64 (4 * (k : Int) + 2)))
              clear O1 hIk hOk hbr
              go_upto_region 11 with (go_at_call 27; ((with_reducible refine HCE.out.mono ?_); rintro e w1 ⟨rfl, rfl⟩))
              clear a1 b1 a2 b2 hcC0 HCE
              generalize (wr.setCell ⟨gI, 2 * k, none⟩ (.int .i64 (4 * (k : Int)))).setCell ⟨gO, 2 * k, none⟩ (.int .i64 (4 * (k : Int) + 2)) = W2 at HI2 HO2 HB2 ⊢
              have a3 := HI2.out.frozen (q)
              have b3 := HI2.out.cell (q) hqL
              have O3 := HO2.out.far (p := ⟨gI, q, none⟩) (by show gO ≠ gI; omega) (.int .i64 (4 * (k : Int) + 3))
              have a4 := O3.frozen (q)
              have b4 := O3.cell (q) hqL
              have HI4 := Lib.hid ((HI2.out.setz (q) (4 * (k : Int) + 3)).far (p := ⟨gO, q, none⟩) (by show gI ≠ gO; omega) (.int .i64 (4 * (k : Int) + 1)))
              have HO4 := Lib.hid (O3.setz (q) (4 * (k : Int) + 1))
              have HB4 := Lib.hid (below_set (below_set HB2.out (g := gI) (i := q) (by omega) (.int .i64 (4 * (k : Int) + 3))) (g := gO) (i := q) (by omega) (.int .i64 (4 * (k : Int) + 1)))
              clear O3
              go_upto_region 12 with fail
              clear a3 b3 a4 b4
              generalize (W2.setCell ⟨gI, q, none⟩ (.int .i64 (4 * (k : Int) + 3))).setCell ⟨gO, q, none⟩ (.int .i64 (4 * (k : Int) + 1)) = W4 at HI4 HO4 HB4 ⊢
              have cA4 : W4.cell? ⟨bA, oA + k, none⟩ = some (.int .i64 (-1)) := (HB4.out.cell (p := ⟨bA, oA + k, none⟩) hbAB).trans hcA0
              have a5 := HI4.out.frozen (q)
              have b5 := HI4.out.cell (q) hqL
              have O5 := HO4.out.far (p := ⟨gI, q, none⟩) (by show gO ≠ gI; omega) (.int .i64 (4 * (k : Int) + 1))
              have a6 := O5.frozen (q)
              have b6 := O5.cell (q) hqL
              have HI6 := Lib.hid ((HI4.out.setz (q) (4 * (k : Int) + 1)).far (p := ⟨gO, q, none⟩) (by show gI ≠ gO; omega) (.int .i64 (4 * (k : Int) + 3)))
              have HO6 := Lib.hid (O5.setz (q) (4 * (k : Int) + 3))
              have HB6 := Lib.hid (below_set (below_set HB4.out (g := gI) (i := q) (by omega) (.int .i64 (4 * (k : Int) + 1))) (g := gO) (i := q) (by omega) (.int .i64 (4 * (k : Int) + 3)))
              have HI7 := Lib.hid (HI6.out.congr (V' := iv (inN code s (k + 1))) fun i _ => by
                simp only [zv, iv]
                rw [HIN.out, ← upd_cast (inN code s k) (2 * k) (q) (4 * k) (4 * k + 1) (4 * (k : Int)) (4 * (k : Int) + 1) (by omega) (by omega) i]
                by_cases e : i = q
                · rw [if_pos e, if_pos e]
                · rw [if_neg e, if_neg e, if_neg e])
              have HO7 := Lib.hid (HO6.out.congr (V' := iv (exN code s (k + 1))) fun i _ => by
                simp only [zv, iv]
                rw [HEX.out, upd_swap (by omega), ← upd_cast (exN code s k) (2 * k) (q) (4 * k + 2) (4 * k + 3) (4 * (k : Int) + 2) (4 * (k : Int) + 3) (by omega) (by omega) i]
                by_cases e : i = q
                · rw [if_pos e, if_pos e]
                · rw [if_neg e, if_neg e, if_neg e])
              clear O5
              go_wp2
              go_roundw
              case rel => exact ⟨k + 1, by omega, by go_num, HB6.out, HI7.out, HO7.out⟩
              case measure => simp [intOf]; omega
          · rw [if_neg hneg, if_neg hneg] at hin hex
            rcases hsk with hy | hy
            · rw [hy] at hin hex hcA0
              rw [show soN 1 = 1 from rfl, show trn (4 * k + 1) 2 = 4 * k + 3 by unfold trn; omega] at hin
              rw [show soN 1 = 1 from rfl] at hex
              have HIN := Lib.hid hin
              have HEX := Lib.hid hex
              clear hin hex hy
              have a1 := hIk.frozen (q)
              have b1 := hIk.cell (q) hqL
              have O1 := hOk.far (p := ⟨gI, q, none⟩) (by show gO ≠ gI; omega) (.int .i64 (4 * (k : Int)))
              have a2 := O1.frozen (q)
              have b2 := O1.cell (q) hqL
              have HI2 := Lib.hid ((hIk.setz (q) (4 * (k : Int))).far (p := ⟨gO, q, none⟩) (by show gI ≠ gO; omega) (.int .i64 (4 * (k : Int) + 2)))
              have HO2 := Lib.hid (O1.setz (q) (4 * (k : Int) + 2))
              have HB2 := Lib.hid (below_set (below_set hbr (g := gI) (i := q) (by omega) (.int .i64 (4 * (k : Int)))) (g := gO) (i := q) (by omega) (.int .i64 (4 * (k : Int) + 2)))
              clear O1 hIk hOk hbr
              go_upto_region 11 with (go_at_call 27; ((with_reducible refine HCE.out.mono ?_); rintro e w1 ⟨rfl, rfl⟩))
              clear a1 b1 a2 b2 hcC0 HCE
              generalize (wr.setCell ⟨gI, q, none⟩ (.int .i64 (4 * (k : Int)))).setCell ⟨gO, q, none⟩ (.int .i64 (4 * (k : Int) + 2)) = W2 at HI2 HO2 HB2 ⊢
              have a3 := HI2.out.frozen (2 * k)
              have b3 := HI2.out.cell (2 * k) hkL
              have O3 := HO2.out.far (p := ⟨gI, 2 * k, none⟩) (by show gO ≠ gI; omega) (.int .i64 (4 * (k : Int) + 3))
              have a4 := O3.frozen (2 * k)
              have b4 := O3.cell (2 * k) hkL
              have HI4 := Lib.hid ((HI2.out.setz (2 * k) (4 * (k : Int) + 3)).far (p := ⟨gO, 2 * k, none⟩) (by show gI ≠ gO; omega) (.int .i64 (4 * (k : Int) + 1)))
              have HO4 := Lib.hid (O3.setz (2 * k) (4 * (k : Int) + 1))
              have HB4 := Lib.hid (below_set (below_set HB2.out (g := gI) (i := 2 * k) (by omega) (.int .i64 (4 * (k : Int) + 3))) (g := gO) (i := 2 * k) (by omega) (.int .i64 (4 * (k : Int) + 1)))
              clear O3
              go_upto_region 12 with fail
              clear a3 b3 a4 b4
              generalize (W2.setCell ⟨gI, 2 * k, none⟩ (.int .i64 (4 * (k : Int) + 3))).setCell ⟨gO, 2 * k, none⟩ (.int .i64 (4 * (k : Int) + 1)) = W4 at HI4 HO4 HB4 ⊢
              have cA4 : W4.cell? ⟨bA, oA + k, none⟩ = some (.int .i64 (1)) := (HB4.out.cell (p := ⟨bA, oA + k, none⟩) hbAB).trans hcA0
              have HI5 := Lib.hid (HI4.out.congr (V' := iv (inN code s (k + 1))) fun i _ => by
                simp only [zv, iv]
                rw [HIN.out, upd_cast (inN code s k) (q) (2 * k) (4 * k) (4 * k + 3) (4 * (k : Int)) (4 * (k : Int) + 3) (by omega) (by omega) i])
              have HO5 := Lib.hid (HO4.out.congr (V' := iv (exN code s (k + 1))) fun i _ => by
                simp only [zv, iv]
                rw [HEX.out, upd_swap (by omega), upd_cast (exN code s k) (q) (2 * k) (4 * k + 2) (4 * k + 1) (4 * (k : Int) + 2) (4 * (k : Int) + 1) (by omega) (by omega) i])
              go_wp2
              go_roundw
              case rel => exact ⟨k + 1, by omega, by go_num, HB4.out, HI5.out, HO5.out⟩
              case measure => simp [intOf]; omega
            · rw [hy] at hin hex hcA0
              rw [show soN (-1) = 3 from rfl, show trn (4 * k + 3) 2 = 4 * k + 1 by unfold trn; omega] at hin
              rw [show soN (-1) = 3 from rfl] at hex
              have HIN := Lib.hid hin
              have HEX := Lib.hid hex
              clear hin hex hy
              have a1 := hIk.frozen (q)
              have b1 := hIk.cell (q) hqL
              have O1 := hOk.far (p := ⟨gI, q, none⟩) (by show gO ≠ gI; omega) (.int .i64 (4 * (k : Int)))
              have a2 := O1.frozen (q)
              have b2 := O1.cell (q) hqL
              have HI2 := Lib.hid ((hIk.setz (q) (4 * (k : Int))).far (p := ⟨gO, q, none⟩) (by show gI ≠ gO; omega) (.int .i64 (4 * (k : Int) + 2)))
              have HO2 := Lib.hid (O1.setz (q) (4 * (k : Int) + 2))
              have HB2 := Lib.hid (below_set (below_set hbr (g := gI) (i := q) (by omega) (.int .i64 (4 * (k : Int)))) (g := gO) (i := q) (by omega) (.int .i64 (4 * (k : Int) + 2)))
              clear O1 hIk hOk hbr
              go_upto_region 11 with (go_at_call 27; ((with_reducible refine HCE.out.mono ?_); rintro e w1 ⟨rfl, rfl⟩))
              clear a1 b1 a2 b2 hcC0 HCE
              generalize (wr.setCell ⟨gI, q, none⟩ (.int .i64 (4 * (k : Int)))).setCell ⟨gO, q, none⟩ (.int .i64 (4 * (k : Int) + 2)) = W2 at HI2 HO2 HB2 ⊢
              have a3 := HI2.out.frozen (2 * k)
              have b3 := HI2.out.cell (2 * k) hkL
              have O3 := HO2.out.far (p := ⟨gI, 2 * k, none⟩) (by show gO ≠ gI; omega) (.int .i64 (4 * (k : Int) + 3))
              have a4 := O3.frozen (2 * k)
              have b4 := O3.cell (2 * k) hkL
              have HI4 := Lib.hid ((HI2.out.setz (2 * k) (4 * (k : Int) + 3)).far (p := ⟨gO, 2 * k, none⟩) (by show gI ≠ gO; omega) (.int .i64 (4 * (k : Int) + 1)))
              have HO4 := Lib.hid (O3.setz (2 * k) (4 * (k : Int) + 1))
              have HB4 := Lib.hid (below_set (below_set HB2.out (g := gI) (i := 2 * k) (by omega) (.int .i64 (4 * (k : Int) + 3))) (g := gO) (i := 2 * k) (by omega) (.int .i64 (4 * (k : Int) + 1)))
              clear O3
              go_upto_region 12 with fail
              clear a3 b3 a4 b4
              generalize (W2.setCell ⟨gI, 2 * k, none⟩ (.int .i64 (4 * (k : Int) + 3))).setCell ⟨gO, 2 * k, none⟩ (.int .i64 (4 * (k : Int) + 1)) = W4 at HI4 HO4 HB4 ⊢
              have cA4 : W4.cell? ⟨bA, oA + k, none⟩ = some (.int .i64 (-1)) := (HB4.out.cell (p := ⟨bA, oA + k, none⟩) hbAB).trans hcA0
              have a5 := HI4.out.frozen (2 * k)
              have b5 := HI4.out.cell (2 * k) hkL
              have O5 := HO4.out.far (p := ⟨gI, 2 * k, none⟩) (by show gO ≠ gI; omega) (.int .i64 (4 * (k : Int) + 1))
              have a6 := O5.frozen (2 * k)
              have b6 := O5.cell (2 * k) hkL
              have HI6 := Lib.hid ((HI4.out.setz (2 * k) (4 * (k : Int) + 1)).far (p := ⟨gO, 2 * k, none⟩) (by show gI ≠ gO; omega) (.int .i64 (4 * (k : Int) + 3)))
              have HO6 := Lib.hid (O5.setz (2 * k) (4 * (k : Int) + 3))
              have HB6 := Lib.hid (below_set (below_set HB4.out (g := gI) (i := 2 * k) (by omega) (.int .i64 (4 * (k : Int) + 1))) (g := gO) (i := 2 * k) (by omega) (.int .i64 (4 * (k : Int) + 3)))
              have HI7 := Lib.hid (HI6.out.congr (V' := iv (inN code s (k + 1))) fun i _ => by
                simp only [zv, iv]
                rw [HIN.out, ← upd_cast (inN code s k) (q) (2 * k) (4 * k) (4 * k + 1) (4 * (k : Int)) (4 * (k : Int) + 1) (by omega) (by omega) i]
                by_cases e : i = 2 * k
                · rw [if_pos e, if_pos e]
                · rw [if_neg e, if_neg e, if_neg e])
              have HO7 := Lib.hid (HO6.out.congr (V' := iv (exN code s (k + 1))) fun i _ => by
                simp only [zv, iv]
                rw [HEX.out, upd_swap (by omega), ← upd_cast (exN code s k) (q) (2 * k) (4 * k + 2) (4 * k + 3) (4 * (k : Int) + 2) (4 * (k : Int) + 3) (by omega) (by omega) i]
                by_cases e : i = 2 * k
                · rw [if_pos e, if_pos e]
                · rw [if_neg e, if_neg e, if_neg e])
              clear O5
              go_wp2
              go_roundw
              case rel => exact ⟨k + 1, by omega, by go_num, HB6.out, HI7.out, HO7.out⟩
              case measure => simp [intOf]; omega
        · obtain rfl : k = n := by omega
          have HOW := Lib.hid (HOS.out.keep hbr)
          obtain ⟨d0, d1, d2, dlt⟩ := HCB.out.keep hbr
          have hAMr := HAM.out.keep hbr
          have HRr := Lib.hid (HR2.out.kp hbr)
          have hsz := hbr.size
          obtain ⟨E, hE⟩ : ∃ E, exN code s k = E := ⟨_, rfl⟩
          obtain ⟨Ii, hIi⟩ : ∃ Ii, inN code s k = Ii := ⟨_, rfl⟩
          have HE := Lib.hid hE
          have hin : ∀ q, q < L → Ii q = trn (E q) 2 := fun q hq => by
            rw [← hIi, ← hE]
            have := HL.out
            exact in_ex s HV.out HL1.out (by omega) (pos_ex HV.out HL1.out (by omega))
          have hElt : ∀ q, q < L → E q < 4 * k := fun q hq => by
            rw [← hE]
            have := HL.out
            exact (ex_out HV.out HL1.out HSG.out HL2.out (by omega)).2.2
          have hM0 : Arr wr gM 3 (4 * k) (iv (jnN E L 0 fun _ => 0)) := hAMr.congr fun _ _ => rfl
          rw [hE] at hOk
          rw [hIi] at hIk
          have HIN := Lib.hid hin
          have HEL := Lib.hid hElt
          have HOK := Lib.hid hOk
          have HIK := Lib.hid hIk
          obtain ⟨nm, hnm⟩ : ∃ nm, 4 * k = nm := ⟨_, rfl⟩
          have HNM := Lib.hid hnm
          rw [hnm] at hM0 d1 HEL
          have hnm1 : (nm : Int) ≤ 256 := by omega
          have hgIs := hIk.lt
          have hgOs := hOk.lt
          obtain ⟨wE, hwE⟩ : ∃ wE : World, wE = wr := ⟨_, rfl⟩
          subst hwE
          clear hin hElt hIi hAMr hOk hIk hlt hk hI0' hO0' hnm hE
          go_wp2
          go_loopw [12, 13, 14] (fun i _ _ wr => ∃ q : Nat, q ≤ L ∧ i = .int .i64 q ∧ wE.grownBy wr (some gM) ∧ Arr wr gM 3 nm (iv (jnN E L q fun _ => 0))) (fun i _ _ _ => L - (intOf i).toNat)
          case atStart => exact ⟨0, by omega, rfl, grownBy_refl _ _, hM0⟩
          case round =>
            obtain ⟨q, hq, rfl, hgr, hMq⟩ := hrel
            have x0 := (hgr.cell_far ⟨gB, 0, none⟩ dlt (by simp; omega)).trans d0
            have x1 := (hgr.cell_far ⟨gB, 1, none⟩ dlt (by simp; omega)).trans d1
            have x2 := (hgr.cell_far ⟨gB, 2, none⟩ dlt (by simp; omega)).trans d2
            by_cases hql : q < L
            · obtain ⟨p, hp⟩ : ∃ p, (q + 1) % L = p := ⟨_, rfl⟩
              have hpL : p < L := by rw [← hp]; exact Nat.mod_lt _ hL0
              have hpi : ((q : Int) + 1) % (L : Int) = (p : Int) := by rw [← hp]; simp
              have cO : wr.cell? ⟨gO, q, none⟩ = some (.int .i64 (E q : Nat)) := (HOK.out.grown hgr (by simp; omega)).cell q hql
              have cI : wr.cell? ⟨gI, p, none⟩ = some (.int .i64 (Ii p : Nat)) := (HIK.out.grown hgr (by simp; omega)).cell p hpL
              rw [HIN.out p hpL] at cI
              have hstep : jnN E L (q + 1) (fun _ => 0) = upd (upd (jnN E L q fun _ => 0) (E q) (trn (E ((q + 1) % L)) 2)) (trn (E ((q + 1) % L)) 2) (E q) := rfl
              rw [hp] at hstep
              have ho1 := HEL.out q hql
              have ho2 : trn (E p) 2 < nm := by have := HEL.out p hpL; have := HNM.out; unfold trn; omega
              obtain ⟨o, hoo⟩ : ∃ o, E q = o := ⟨_, rfl⟩
              obtain ⟨i', hii⟩ : ∃ i', trn (E p) 2 = i' := ⟨_, rfl⟩
              rw [hoo] at cO ho1 hstep
              rw [hii] at cI ho2 hstep
              have hA2 : Arr ((wr.setCell ⟨gM, o, none⟩ (.int .i64 (i' : Nat))).setCell ⟨gM, i', none⟩ (.int .i64 (o : Nat))) gM 3 nm (iv (jnN E L (q + 1) fun _ => 0)) := by
                rw [hstep]; exact (hMq.seti _ _).seti _ _
              have f1 := hMq.frozen o
              have c1 := hMq.cell o ho1
              have f2 : ∀ N, ((wr.drewN N).setCell ⟨gM, o, none⟩ (.int .i64 (i' : Nat))).frozen? ⟨gM, i', none⟩ = false := fun _ => (hMq.seti o i').frozen i'
              have c2 : ∀ N, ((wr.drewN N).setCell ⟨gM, o, none⟩ (.int .i64 (i' : Nat))).cell? ⟨gM, i', none⟩ = some (.int .i64 (upd (jnN E L q fun _ => 0) o i' i' : Nat)) := fun _ => (hMq.seti o i').cell i' ho2
              have hg2 : wE.grownBy ((wr.setCell ⟨gM, o, none⟩ (.int .i64 (i' : Nat))).setCell ⟨gM, i', none⟩ (.int .i64 (o : Nat))) (some gM) := grown_set (grown_set hgr _ _) _ _
              have HA2 := Lib.hid hA2
              have HG2 := Lib.hid hg2
              have HGR := Lib.hid hgr
              clear hA2 hg2 hstep hoo hii hp hM0 hgr d0 d1 d2
              have hq0 : (0 : Int) ≤ (q : Int) := Int.natCast_nonneg _
              have hq1 : (q : Int) < (L : Int) := by omega
              have hp0 : (0 : Int) ≤ (p : Int) := Int.natCast_nonneg _
              have hp1 : (p : Int) < (L : Int) := by omega
              have hL4 : ¬ (L : Int) = 0 := by omega
              have hL5 : ((L : Int) == 0) = false := by simp; omega
              have hL6 : 0 < (L : Int) := by omega
              have hw1 : IntKind.i64.wrap ((q : Int) + 1) = (q : Int) + 1 := IntWalk.i64_in _ (by omega)
              have hw2 : IntKind.i64.wrap (2 * (k : Int)) = (L : Int) := by rw [hLi]; exact IntWalk.i64_in _ (by omega)
              have hw3 : ((q : Int) + 1).tmod (L : Int) = (p : Int) := by rw [Int.tmod_eq_emod_of_nonneg (by omega), hpi]
              have hw4 : IntKind.i64.wrap (p : Int) = (p : Int) := IntWalk.i64_in _ (by omega)
              have ho10 : (0 : Int) ≤ (o : Int) := Int.natCast_nonneg _
              have ho11 : (o : Int) < (nm : Int) := by omega
              have hi0 : (0 : Int) ≤ (i' : Int) := Int.natCast_nonneg _
              have hi1 : (i' : Int) < (nm : Int) := by omega
              go_wp2
              go_quiet (fail)
              go_wp2
              go_region
              all_goals
                go_wp2
                go_roundw
                case rel => exact ⟨q + 1, by omega, by go_num, grown_set (grown_set (grown_drewN HGR.out _) _ _) _ _, HA2.out⟩
                case measure => simp [intOf]; omega
            · obtain rfl : q = L := by omega
              have hgrM : w.heap.size ≠ gM := by omega
              have hbxr : BxAt wr w.heap.size := ⟨db_grown HRr.out.1 hgr hgrM, fun i => (hgr.frozen_far ⟨w.heap.size, i, none⟩ HRr.out.1.2.2.2 (by simp; omega)).trans (HRr.out.2 i)⟩
              have r0 := hbxr.1.1
              have r1 := hbxr.1.2.1
              have r2 := hbxr.1.2.2.1
              have g0 := hbxr.2 0
              have g1 := hbxr.2 1
              have g2 := hbxr.2 2
              have hOf := HOW.out.grown hgr (.inr hSM)
              have HBX := Lib.hid hbxr
              have HOF := Lib.hid hOf
              have hMfin := hMq
              have HMF := Lib.hid hMfin
              have hbw : Below w.heap.size w wr := grown_below (hb0.trans ((hbX.trans (hbr.mono hB0)).mono hb0.size)) hgr (by omega) (by omega)
              have HBW := Lib.hid hbw
              clear hMfin hMq hOf hbxr hbw hql hq hM0 d0 d1 d2
              go_wp2
              obtain ⟨k0, k1, k2⟩ := set3w_bx HBX.out (.slice S k sc) (.slice (some ⟨gM, 0, none⟩) nm nm) (.int .i64 0)
              have hS3 : RI (set3w wr w.heap.size (.slice S k sc) (.slice (some ⟨gM, 0, none⟩) nm nm) (.int .i64 0)) S k s := by
                have h1 := HOF.out.set3w (g := w.heap.size) (fun e => by have := (World.ownsRow.lt HOF.out _ e).1; omega) (.slice S k sc) (.slice (some ⟨gM, 0, none⟩) nm nm) (.int .i64 0)
                exact h1.ri
              have hM3 := ((HMF.out.far (p := ⟨w.heap.size, 0, none⟩) hgrM.symm (.slice S k sc)).far (p := ⟨w.heap.size, 1, none⟩) hgrM.symm (.slice (some ⟨gM, 0, none⟩) nm nm)).far (p := ⟨w.heap.size, 2, none⟩) hgrM.symm (.int .i64 0)
              have hM4 := rn_arr hM3
              have hM5 : lstN nm (jnN E q q fun _ => 0) = mkM code s := by
                have h1 := HL.out
                have h2 := HNM.out
                rw [← h2, ← h1, ← HE.out]
                exact mkM_eq s HV.out HL1.out _
              rw [hM5] at hM4
              have h2 := HNM.out
              subst h2
              exact bodyPost_ret (v := dval S k sc (some ⟨gM, 0, none⟩) (4 * k) (4 * k) 0) (by simp [results, Try.results24, go_sem, k0, k1, k2]) rfl ⟨S, sc, gM, rfl, hS3, hM4, set3w_below HBW.out (Nat.le_refl _) _ _ _⟩

end Go.Proofs.Ytebliaclleplgaa

/- Walks: the reference's Turn and Out. -/
namespace Go.Proofs.Ytebliaclleplgaa
open Go.RowKit

set_option maxHeartbeats 400000 in
theorem rturn_any (h k : Int) (w : World) (hlo : -9223372036854775808 ≤ h) (hhi : h ≤ 9223372036854775807) (_klo : -9223372036854775808 ≤ k) (_khi : k ≤ 9223372036854775807) :
    Calls Try.prog 46 #[.int .i64 h, .int .i64 k] w fun e w' => e = .returned (.int .i64 (turnI h k)) ∧ w = w' := by
  obtain ⟨ht1, ht2⟩ := tmod4 k
  by_cases hn : h < 0
  · go_enter Try.func46, Try.ntmps46
    go_wp2
    go_ret
    exact ⟨ret_int (by simp [turnI, hn]), rfl⟩
  · have hn' : 0 ≤ h := by omega
    by_cases hp : 0 ≤ h % 4 + k.tmod 4
    · go_enter Try.func46, Try.ntmps46
      go_wp2
      go_ret
      exact ⟨ret_int (by rw [turnI, if_neg (by omega)]; omega), rfl⟩
    · have ht : (h % 4 + k.tmod 4).tmod 4 = h % 4 + k.tmod 4 := tmod_small _ (by omega) (by omega)
      go_enter Try.func46, Try.ntmps46
      go_wp2
      go_ret
      exact ⟨ret_int (by rw [turnI, if_neg (by omega)]; omega), rfl⟩

set_option maxHeartbeats 800000 in
theorem rout_any (A : Option Addr) (ns cs : Nat) (signs : List Int) (h : Nat) (w : World) (hs : RI w A ns signs) (hh : h / 4 < ns) (hns : ns ≤ 1000000) :
    Calls Try.prog 28 #[.slice A ns cs, .int .i64 h] w fun e w' => e = .returned (.bool (outB signs h)) ∧ w = w' := by
  obtain ⟨b, off, rfl, hb, hc⟩ := hs.2 (by omega)
  have hcell : w.cell? ⟨b, off + h / 4, none⟩ = some (.int .i64 (signs.getD (h / 4) 0)) := hc _ hh
  generalize hx : signs.getD (h / 4) 0 = x at hcell
  clear hs hc
  rcases mod4_cases h with h4 | h4 | h4 | h4
  · have h4' : (h : Int) % 4 = 0 := by omega
    have e : outB signs h = false := by simp [outB, h4]
    rw [e]; clear e h4 hx
    go_enter Try.func28, Try.ntmps28
    go_wp2
    go_ret
    exact ⟨rfl, rfl⟩
  · have h4' : (h : Int) % 4 = 1 := by omega
    have e : outB signs h = (x == 1) := by simp only [outB, h4, hx]; rfl
    rw [e]; clear e h4 hx
    go_enter Try.func28, Try.ntmps28
    go_wp2
    go_ret
    exact ⟨rfl, rfl⟩
  · have h4' : (h : Int) % 4 = 2 := by omega
    have e : outB signs h = true := by simp [outB, h4]
    rw [e]; clear e h4 hx
    go_enter Try.func28, Try.ntmps28
    go_wp2
    go_ret
    exact ⟨rfl, rfl⟩
  · have h4' : (h : Int) % 4 = 3 := by omega
    have e : outB signs h = (x == -1) := by simp only [outB, h4, hx]; rfl
    rw [e]; clear e h4 hx
    go_enter Try.func28, Try.ntmps28
    go_wp2
    go_ret
    exact ⟨rfl, rfl⟩

end Go.Proofs.Ytebliaclleplgaa
