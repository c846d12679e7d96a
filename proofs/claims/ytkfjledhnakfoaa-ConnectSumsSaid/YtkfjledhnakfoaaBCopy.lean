/- Walk: the reference's Copy. -/
import Derived.Test.YtkfjledhnakfoaaBEq
import Derived.Test.YtkfjledhnakfoaaBStepNew
namespace Go.Proofs.Ytkfjledhnakfoaa
open Go.ChangeShapes Go.WideShapes Go.ChangeAt Go.RowKit

set_option maxHeartbeats 6400000 in
theorem rcopy_any (A B : Option Addr) (ns cs nm cm : Nat) (lp : Int) (signs mate : List Int) (w : World) (hs : RI w A ns signs) (hm : RI w B nm mate) (hns : ns ≤ 1000) (hnm : nm ≤ 1000) :
    Calls Try.prog 61 #[dval A ns cs B nm cm lp] w (ClonePost w ns nm lp signs mate) := by
  have hd := (DB.new w A ns cs B nm cm lp).keep (below_alloc _ (.cells #[.slice none 0 0, .slice none 0 0, .int .i64 0] 24))
  have hb0 := below_step (below_alloc w (dbox A ns cs B nm cm lp)) (below_alloc _ (.cells #[.slice none 0 0, .slice none 0 0, .int .i64 0] 24))
  have hr := DB.new (w.alloc (dbox A ns cs B nm cm lp)) none 0 0 none 0 0 0
  have hrf : ∀ i, ((w.alloc (dbox A ns cs B nm cm lp)).alloc (.cells #[.slice none 0 0, .slice none 0 0, .int .i64 0] 24)).frozen? ⟨w.heap.size + 1, i, none⟩ = false := fun i => World.frozen?_alloc_at _ _ _ _ (by simp)
  have hsz : ((w.alloc (dbox A ns cs B nm cm lp)).alloc (.cells #[.slice none 0 0, .slice none 0 0, .int .i64 0] 24)).heap.size = w.heap.size + 2 := by simp
  have hsz1 : (w.alloc (dbox A ns cs B nm cm lp)).heap.size = w.heap.size + 1 := by simp
  rw [hsz1] at hr
  go_enter Try.func61, Try.ntmps61
  go_upto_region 1 with fail
  generalize (w.alloc (dbox A ns cs B nm cm lp)).alloc (.cells #[.slice none 0 0, .slice none 0 0, .int .i64 0] 24) = wA at hd hb0 hr hrf hsz ⊢
  obtain ⟨g1, hg1⟩ : ∃ g1, w.heap.size + 1 = g1 := ⟨_, rfl⟩
  rw [hg1] at hr hrf ⊢
  have hlt1 : w.heap.size < g1 := by omega
  have hltA : g1 < wA.heap.size := by omega
  clear hg1 hsz hsz1
  obtain ⟨d0, d1, d2, dlt⟩ := hd
  obtain ⟨r0, r1, r2, rlt⟩ := hr
  have hs1 := hs.keep hb0
  have hm1 := hm.keep hb0
  have HRF := Lib.hid hrf
  clear hs hm hrf
  go_region_held3 (fun w' => w'.cell? ⟨w.heap.size, 0, none⟩ = some (.slice A ns cs) ∧ w'.cell? ⟨w.heap.size, 1, none⟩ = some (.slice B nm cm) ∧ w'.cell? ⟨w.heap.size, 2, none⟩ = some (.int .i64 lp))
    (first
      | go_keep
      | exact ⟨(set3_far w2 g1 _ _ _ (Nat.ne_of_gt hlt1) 0).trans ((hbC.cell (p := ⟨w.heap.size, 0, none⟩) dlt).trans d0), (set3_far w2 g1 _ _ _ (Nat.ne_of_gt hlt1) 1).trans ((hbC.cell (p := ⟨w.heap.size, 1, none⟩) dlt).trans d1), (set3_far w2 g1 _ _ _ (Nat.ne_of_gt hlt1) 2).trans ((hbC.cell (p := ⟨w.heap.size, 2, none⟩) dlt).trans d2)⟩
      | exact ⟨(hbC.cell (p := ⟨w.heap.size, 0, none⟩) dlt).trans d0, (hbC.cell (p := ⟨w.heap.size, 1, none⟩) dlt).trans d1, (hbC.cell (p := ⟨w.heap.size, 2, none⟩) dlt).trans d2⟩
      | exact ⟨(hbB.cell (p := ⟨w.heap.size, 0, none⟩) dlt).trans d0, (hbB.cell (p := ⟨w.heap.size, 1, none⟩) dlt).trans d1, (hbB.cell (p := ⟨w.heap.size, 2, none⟩) dlt).trans d2⟩)
    (first
      | (refine step_append_new rfl (.tmp 3) (.tmp 5) rfl wA.heap.size _ (by rfl) (by first | exact heap_alloc_new wA _ | exact heap_two0 wA _ _ | exact heap_two1 wA _ _) (by first | exact Nat.le_refl _ | exact Nat.le_succ _) A ns cs signs (by rfl) (by first | exact (hs1.alloc _).drew | exact ((hs1.alloc _).alloc _).drew) (by omega) ?_; intro A1 c1 w1 k1 ho1 hk1 hat1 hkl1 hgr1; have hbB : Below wA.heap.size wA w1 := (by first | exact Below.grown (((Below.refl _ _).alloc (Nat.le_refl _) _).drew) hgr1 (by simp <;> omega) (by intro q hq; injection hq with hq; subst hq; simp <;> omega) | exact Below.grown ((((Below.refl _ _).alloc (Nat.le_refl _) _).alloc (by simp <;> omega) _).drew) hgr1 (by simp <;> omega) (by intro q hq; injection hq with hq; subst hq; simp <;> omega)))
      | (refine step_append_new rfl (.tmp 7) (.tmp 9) rfl wA.heap.size _ (by rfl) (by first | exact heap_alloc_new w1 _ | exact (hgr1.block _ (by simp <;> omega) (by simp <;> omega)).trans (heap_two1 wA _ _) | exact (hgr1.block _ (by simp <;> omega) (by simp <;> omega)).trans (heap_two0 wA _ _)) (by first | exact hbB.size | exact Nat.le_refl _ | exact Nat.le_succ _) B nm cm mate (by rfl) (by first | exact hm1.keep hbB | exact (hm1.keep hbB).alloc _) (by omega) ?_; intro B1 m1 w2 k2 ho2 hk2 hat2 hkl2 hgr2; have hbC : Below wA.heap.size wA w2 := (by first | exact Below.grown hbB hgr2 hbB.size (by intro q hq; injection hq with hq; subst hq; simp <;> omega) | exact Below.grown (hbB.alloc hbB.size _) hgr2 (by have := hbB.size; simp; omega) (by intro q hq; injection hq with hq; subst hq; exact hbB.size)); have q0 := (hbC.cell (p := ⟨g1, 0, none⟩) rlt).trans r0; have q1 := (hbC.cell (p := ⟨g1, 1, none⟩) rlt).trans r1; have q2 := (hbC.cell (p := ⟨g1, 2, none⟩) rlt).trans r2; have f0 := (hbC.frozen (p := ⟨g1, 0, none⟩) rlt).trans (HRF.out 0); have f1 := (hbC.frozen (p := ⟨g1, 1, none⟩) rlt).trans (HRF.out 1); have f2 := (hbC.frozen (p := ⟨g1, 2, none⟩) rlt).trans (HRF.out 2)))
  all_goals
    have hkk : k1 ≠ k2 := by have := hbB.size; simp at hat1 hat2 hkl1; omega
    have o1' : OI w2 wA.heap.size (.slice A1 ns c1) signs := by
      first
        | exact ho1.grown hgr2 (.inr (by rw [hk1]; intro e; injection e with e; have := hbB.size; simp at hat1 hkl1; omega))
        | exact ((ho1.alloc _).grown hgr2 (.inr (by rw [hk1]; intro e; injection e with e; have := hbB.size; simp at hat1 hkl1; omega)))
    obtain ⟨x0, x1, x2⟩ := set3_cells w2 g1 (.slice A1 ns c1) (.slice B1 nm m1) (.int .i64 lp) q0 q1 q2
    have n1 : (Value.slice A1 ns c1).ownBlock ≠ some g1 := fun e => by have := (World.ownsRow.lt ho1 g1 e).1; omega
    have n2 : (Value.slice B1 nm m1).ownBlock ≠ some g1 := fun e => by have := (World.ownsRow.lt ho2 g1 e).1; omega
    have o1 := (o1'.set3 n1 (.slice A1 ns c1) (.slice B1 nm m1) (.int .i64 lp)).mono (B' := w.heap.size) hb0.size
    have o2 := (ho2.set3 n2 (.slice A1 ns c1) (.slice B1 nm m1) (.int .i64 lp)).mono (B' := w.heap.size) hb0.size
    have hne : (Value.slice A1 ns c1).ownBlock = none ∨ (Value.slice A1 ns c1).ownBlock ≠ (Value.slice B1 nm m1).ownBlock := .inr (by rw [hk1, hk2]; intro e; injection e with e; exact hkk e)
    have hbF := set3_below (hb0.trans (hbC.mono hb0.size)) (Nat.le_of_lt hlt1) (.slice A1 ns c1) (.slice B1 nm m1) (.int .i64 lp)
    have HF := Lib.hid (show ClonePost w ns nm lp signs mate (.returned (dval A1 ns c1 B1 nm m1 lp)) (set3 w2 g1 (.slice A1 ns c1) (.slice B1 nm m1) (.int .i64 lp)) from ⟨A1, c1, B1, m1, rfl, o1, o2, hne, hbF⟩)
    clear o1 o2 o1' hne hbF n1 n2 ho1 ho2
    go_wp2
    exact bodyPost_ret (v := dval A1 ns c1 B1 nm m1 lp) (by simp [results, Try.results61, go_sem, x0, x1, x2]) rfl HF.out

end Go.Proofs.Ytkfjledhnakfoaa
