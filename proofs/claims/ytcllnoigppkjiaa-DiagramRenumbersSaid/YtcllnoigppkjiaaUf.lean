/- Walk: leastConnected. -/
import Derived.Test.YtcllnoigppkjiaaArr
namespace Go.Proofs.Ytcllnoigppkjiaa
open Go.RowKit

set_option maxHeartbeats 800000 in
theorem find_any (g c : Nat) (L : Nat → Nat) (w : World) (hA : Arr w g 56 64 (iv L)) (hL : ∀ i, L i ≤ i) (hc : c < 64) :
    Calls Try.prog 66 #[.int .i64 (c : Nat), .pointer (some ⟨g, 0, none⟩)] w fun e w' => e = .returned (.int .i64 (root L c : Nat)) ∧ w = w' := by
  go_enter Try.func66, Try.ntmps66
  go_wp2
  go_loop [0] (fun i => ∃ k : Nat, k < 64 ∧ i = .int .i64 k ∧ root L k = root L c) (fun i => (intOf i).toNat)
  case atStart => exact ⟨c, hc, rfl, rfl⟩
  case round =>
    obtain ⟨k, hk, rfl, hr⟩ := hrel
    have HR := Lib.hid hr
    clear hr
    have hcell : w.cell? ⟨g, k, none⟩ = some (.int .i64 (L k : Nat)) := hA.cell k hk
    have hk0 : (0 : Int) ≤ (k : Int) := Int.natCast_nonneg _
    have hk1 : (k : Int) < 64 := by omega
    by_cases hlt : L k < k
    · have hne : ((L k : Int) != (k : Int)) = true := by simp; omega
      have HS := Lib.hid (root_step L k hlt)
      clear hL
      generalize hx : L k = x at hcell hlt hne HS
      clear hx
      go_wp2
      go_round
      case rel => exact ⟨x, by omega, rfl, HS.out.symm.trans HR.out⟩
      case measure => simp [intOf]; omega
    · have hx : L k = k := by have := hL k; omega
      have HF := Lib.hid (root_fix L k hlt)
      rw [hx] at hcell
      clear hL hlt hx
      go_wp2
      go_ret
      exact ⟨ret_int (by rw [← HR.out, HF.out]), rfl⟩

theorem find_int (x : Int) (g c : Nat) (hx : x = (c : Nat)) (L : Nat → Nat) (w : World) (hA : Arr w g 56 64 (iv L)) (hL : ∀ i, L i ≤ i) (hc : c < 64) (r : Nat) (hr : root L c = r) :
    Calls Try.prog 66 #[.int .i64 x, .pointer (some ⟨g, 0, none⟩)] w fun e w' => e = .returned (.int .i64 (r : Nat)) ∧ w' = w := by
  subst hx; subst hr
  exact (find_any g c L w hA hL hc).mono fun _ _ ⟨a, b⟩ => ⟨a, b.symm⟩

theorem find_intw (x : Int) (g c : Nat) (hx : x = (c : Nat)) (L : Nat → Nat) (w : World) (hA : Arr w g 56 64 (iv L)) (hL : ∀ i, L i ≤ i) (hc : c < 64) (r : Nat) (hr : root L c = r) :
    Calls Try.prog 66 #[.int .i64 x, .pointer (some ⟨g, 0, none⟩)] w fun e w' => e = .returned (.int .i64 (r : Nat)) ∧ w = w' := by
  subst hx; subst hr
  exact find_any g c L w hA hL hc

/-- The mates of the half-edges below nm are m 0, m 1, .. -/
def Mates (mate : List Int) (nm : Nat) (m : Nat → Nat) : Prop := ∀ h, h < nm → mate.getD h 0 = (m h : Int) ∧ m h < nm

theorem Try.size56 : (Try.prog.info? 56).map (·.size) = some 64 := by kernel_rfl

def UfPost (_mate : List Int) (ns nm : Nat) (m : Nat → Nat) (w : World) (e : Ending) (w' : World) : Prop :=
  e = .returned (.agg (cellsN 64 (iv (cutN ns (ufLab m nm))))) ∧ Below w.heap.size w w'

set_option maxHeartbeats 3200000 in
set_option maxRecDepth 100000 in
theorem uf_any (A B : Option Addr) (ns cs nm cm : Nat) (lp : Int) (_signs mate : List Int) (m : Nat → Nat) (w : World) (hm : RI w B nm mate) (hns : ns ≤ 64) (hnm : nm = 4 * ns) (hmm : Mates mate nm m) :
    Calls Try.prog 57 #[dval A ns cs B nm cm lp] w (UfPost mate ns nm m w) := by
  have HNM := Lib.hid hnm
  clear hnm
  go_enter Try.func57, Try.ntmps57
  go_wp2
  rw [zeros64]
  generalize hwA : ((w.alloc (dbox A ns cs B nm cm lp)).alloc (.cells (cellsN 64 (iv fun _ => 0)) 56)).alloc (.cells (cellsN 64 (iv fun _ => 0)) 56) = wA
  have hd : DB wA w.heap.size A ns cs B nm cm lp := by
    rw [← hwA]; exact ((DB.new w A ns cs B nm cm lp).keep (below_alloc _ _)).keep (below_alloc _ _)
  have hr : Arr wA (w.heap.size + 1) 56 64 (iv fun _ => 0) := by
    rw [← hwA]
    refine Arr.alloc ?_ _
    have := heap_alloc_new (w.alloc (dbox A ns cs B nm cm lp)) (.cells (cellsN 64 (iv fun _ => 0)) 56)
    simpa [Arr] using this
  have hl : Arr wA (w.heap.size + 2) 56 64 (iv fun _ => 0) := by
    rw [← hwA]
    have := heap_alloc_new ((w.alloc (dbox A ns cs B nm cm lp)).alloc (.cells (cellsN 64 (iv fun _ => 0)) 56)) (.cells (cellsN 64 (iv fun _ => 0)) 56)
    simpa [Arr] using this
  have hb0 : Below w.heap.size w wA := by
    rw [← hwA]; exact below_step (below_step (below_alloc _ _) (below_alloc _ _)) (below_alloc _ _)
  clear hwA
  obtain ⟨g1, hg1⟩ : ∃ g1, w.heap.size + 1 = g1 := ⟨_, rfl⟩
  obtain ⟨g2, hg2⟩ : ∃ g2, w.heap.size + 2 = g2 := ⟨_, rfl⟩
  have e2 : g1 + 1 = g2 := by omega
  rw [hg2] at hl
  rw [hg1] at hr ⊢
  rw [e2]
  have h01 : w.heap.size < g1 := by omega
  have h12 : g1 < g2 := by omega
  clear hg1 hg2 e2
  go_loopw [4, 13] (fun _ i wr => ∃ k : Nat, k ≤ ns ∧ i = .int .i64 k ∧ Below g2 wA wr ∧ Arr wr g2 56 64 (iv (cutN k fun i => i))) (fun _ i _ => ns - (intOf i).toNat)
  case atStart => exact ⟨0, by omega, rfl, Below.refl _ _, hl⟩
  case round =>
    obtain ⟨k, hk, rfl, hbr, har⟩ := hrel
    obtain ⟨d0, d1, d2, dlt⟩ := hd.below hbr (by omega)
    by_cases hlt : k < ns
    · have hcell := har.cell k (by omega)
      have hfz := har.frozen k
      have hk0 : (0 : Int) ≤ (k : Int) := Int.natCast_nonneg _
      have hk1 : (k : Int) < 64 := by omega
      clear hmm
      go_wp2
      go_roundw
      case rel => exact ⟨k + 1, by omega, by go_num, below_set hbr (Nat.le_refl _) _, by have := har.seti k k; rwa [cutN_grow (fun i => i) k] at this⟩
      case measure => simp [intOf]; omega
    · obtain rfl : k = ns := by omega
      obtain ⟨wB, hwB⟩ : ∃ wB : World, wB = wr := ⟨_, rfl⟩
      subst hwB
      have harB : Arr wB g2 56 64 (iv (cutN k (ufAt m 0))) := har
      have hmf : ∀ (fn : Fn) (first cap : Array Value) (w : World), (Instr.makeFunc fn first cap).run Try.prog w = .ok (.func fn first cap) w := fun _ _ _ _ => rfl
      clear hlt hk
      go_wp2
      go_loopw [6, 7, 8, 24] (fun _ _ _ i wr => ∃ j : Nat, j ≤ nm ∧ i = .int .i64 j ∧ Below g2 wB wr ∧ Arr wr g2 56 64 (iv (cutN k (ufAt m j)))) (fun _ _ _ i _ => nm - (intOf i).toNat)
      case atStart => exact ⟨0, by omega, rfl, Below.refl _ _, harB⟩
      case round =>
        obtain ⟨j, hj, rfl, hbj, haj⟩ := hrel
        have hbW := hbr.trans hbj
        obtain ⟨d0, d1, d2, dlt⟩ := hd.below hbW (by omega)
        by_cases hlt : j < nm
        · obtain ⟨b, off, rfl, hbb, hc⟩ := (hm.keep (hb0.trans (hbW.mono (by omega)))).2 (by omega)
          have hcj := hc j hlt
          obtain ⟨hmj, hml⟩ := hmm j hlt
          rw [hmj] at hcj
          have hj4 : j / 4 < k := by have := HNM.out; omega
          have hm4 : m j / 4 < k := by have := HNM.out; omega
          have hLe := cutN_le k (ufAt m j) (ufAt_le m j)
          have HA := Lib.hid haj
          have HL := Lib.hid hLe
          have hstep : upd (cutN k (ufAt m j)) (max (root (ufAt m j) (j / 4)) (root (ufAt m j) (m j / 4))) (min (root (ufAt m j) (j / 4)) (root (ufAt m j) (m j / 4))) = cutN k (ufAt m (j + 1)) :=
            cutN_upd _ _ _ _ (by have := root_le (ufAt m j) (j / 4); have := root_le (ufAt m j) (m j / 4); omega)
          have HS := Lib.hid hstep
          have HX := Lib.hid (root_cutN k (ufAt m j) (j / 4) hj4)
          have HY := Lib.hid (root_cutN k (ufAt m j) (m j / 4) hm4)
          have hx64 : root (ufAt m j) (j / 4) < 64 := by have := root_le (ufAt m j) (j / 4); omega
          have hy64 : root (ufAt m j) (m j / 4) < 64 := by have := root_le (ufAt m j) (m j / 4); omega
          generalize hmx : m j = mj at *
          generalize root (ufAt m j) (j / 4) = x at *
          generalize root (ufAt m j) (mj / 4) = y at *
          clear haj hLe hstep hc hmj hmm
          have hj0 : (0 : Int) ≤ (j : Int) := Int.natCast_nonneg _
          have hj1 : (j : Int) < (nm : Int) := by omega
          have hmj0 : (0 : Int) ≤ (mj : Int) := Int.natCast_nonneg _
          have hx0 : (0 : Int) ≤ (x : Int) := Int.natCast_nonneg _
          have hy0 : (0 : Int) ≤ (y : Int) := Int.natCast_nonneg _
          have hw1 : IntKind.i64.wrap ((j : Int) / 4) = (j : Int) / 4 := IntWalk.i64_in _ (by omega)
          have hw2 : IntKind.i64.wrap ((mj : Int) / 4) = (mj : Int) / 4 := IntWalk.i64_in _ (by omega)
          have C1 := Lib.hid (find_intw ((j : Int) / 4) g2 (j / 4) (by omega) (cutN k (ufAt m j)) wr.drew HA.out HL.out (by omega) x HX.out)
          have C2 := Lib.hid (find_intw ((mj : Int) / 4) g2 (mj / 4) (by omega) (cutN k (ufAt m j)) wr.drew HA.out HL.out (by omega) y HY.out)
          have hcases : ∃ hi lo : Nat, hi < 64 ∧ max x y = hi ∧ min x y = lo ∧ ((x < y ∧ hi = y ∧ lo = x) ∨ (x = y ∧ hi = y ∧ lo = x) ∨ (y < x ∧ hi = x ∧ lo = y)) := by
            rcases Nat.lt_trichotomy x y with h | h | h
            · exact ⟨y, x, hy64, by omega, by omega, .inl ⟨h, rfl, rfl⟩⟩
            · exact ⟨y, x, hy64, by omega, by omega, .inr (.inl ⟨h, rfl, rfl⟩)⟩
            · exact ⟨x, y, hx64, by omega, by omega, .inr (.inr ⟨h, rfl, rfl⟩)⟩
          obtain ⟨hi, lo, hhi, ehi, elo, hcs⟩ := hcases
          rw [ehi, elo] at HS
          have hcx := (HA.out).cell hi hhi
          have hfx := (HA.out).frozen hi
          have HZ := Lib.hid (show Arr (wr.setCell ⟨g2, hi, none⟩ (.int .i64 (lo : Nat))) g2 56 64 (iv (cutN k (ufAt m (j + 1)))) from by have := HA.out.seti hi lo; rwa [HS.out] at this)
          clear ehi elo HS
          rcases hcs with ⟨hxy, rfl, rfl⟩ | ⟨rfl, rfl, rfl⟩ | ⟨hxy, rfl, rfl⟩
          all_goals
            go_wp2
            go_region_held3 (fun w' => w'.cell? ⟨w.heap.size, 1, none⟩ = some (.slice (some ⟨b, off, none⟩) nm cm) ∧ w'.cell? ⟨b, off + j, none⟩ = some (.int .i64 (mj : Int))) (go_keep)
              (first
                | (go_at_call 66; ((with_reducible refine C1.out.mono ?_); rintro e w' ⟨rfl, rfl⟩))
                | (go_at_call 66; ((with_reducible refine C2.out.mono ?_); rintro e w' ⟨rfl, rfl⟩)))
            go_wp2
            go_roundw
            case rel => exact ⟨j + 1, by omega, by go_num, below_set hbj.drew (Nat.le_refl _) _, HZ.out⟩
            case measure => simp [intOf]; omega
        · obtain rfl : j = nm := by omega
          have hrr : Arr wr g1 56 64 (iv fun _ => 0) := hr.below hbW h12
          obtain ⟨wC, hwC⟩ : ∃ wC : World, wC = wr := ⟨_, rfl⟩
          subst hwC
          clear hlt hj hbj
          have hajC : Arr wC g2 56 64 (iv (cutN k (compAt (ufAt m j) 0))) := by rw [comp_zero]; exact haj
          clear haj
          go_wp2
          go_loopw [9, 50] (fun _ i wr => ∃ q : Nat, q ≤ k ∧ i = .int .i64 q ∧ Below g2 wC wr ∧ Arr wr g2 56 64 (iv (cutN k (compAt (ufAt m j) q)))) (fun _ i _ => k - (intOf i).toNat)
          case atStart => exact ⟨0, by omega, rfl, Below.refl _ _, hajC⟩
          case round =>
            obtain ⟨q, hq, rfl, hbq, haq⟩ := hrel
            have hbW' := hbW.trans hbq
            obtain ⟨d0, d1, d2, dlt⟩ := hd.below hbW' (by omega)
            by_cases hlt : q < k
            · have HC := Lib.hid (find_intw (q : Int) g2 q rfl (cutN k (compAt (ufAt m j) q)) wr haq (cutN_le k _ (comp_le _ (ufAt_le m j) q)) (by omega) (root (compAt (ufAt m j) q) q) (root_cutN k _ q hlt))
              have hcx := haq.cell q (by omega)
              have hfx := haq.frozen q
              have hstep : Arr (wr.setCell ⟨g2, q, none⟩ (.int .i64 (root (compAt (ufAt m j) q) q : Nat))) g2 56 64 (iv (cutN k (compAt (ufAt m j) (q + 1)))) := by
                have := haq.seti q (root (compAt (ufAt m j) q) q)
                rwa [cutN_upd _ _ _ _ hlt, comp_succ] at this
              have HZ := Lib.hid hstep
              clear hstep haq
              have hq0 : (0 : Int) ≤ (q : Int) := Int.natCast_nonneg _
              have hq1 : (q : Int) < 64 := by omega
              go_wp2_with (go_at_call 66; ((with_reducible refine HC.out.mono ?_); rintro e w' ⟨rfl, rfl⟩))
              go_outline
              go_roundw
              case rel => exact ⟨q + 1, by omega, by go_num, below_set hbq (Nat.le_refl _) _, HZ.out⟩
              case measure => simp [intOf]; omega
            · obtain rfl : q = k := by omega
              have hrq : Arr wr g1 56 64 (iv fun _ => 0) := hrr.below hbq h12
              have hfin : Arr wr g2 56 64 (iv (cutN q (ufLab m j))) := haq.congr fun i hi => by
                simp only [iv, cutN, compAt, ufLab]
                by_cases h : i < q
                · simp [h]
                · simp [h]
              have HF := Lib.hid hfin
              have HR := Lib.hid hrq
              have HB := Lib.hid (hb0.trans (hbW'.mono (by omega)))
              clear haq hfin hrq hlt hq hrr hl hr har harB hajC hmm
              go_wp2_with (first
                | (refine wpList_load_row rfl 56 (.tmp 3) rfl g2 rfl 56 (cellsN 64 (iv (cutN q (ufLab m j)))) (0, 0) _ HF.out Try.underlying56 rfl (by rw [cellsN_size]; exact Try.size56) ?_)
                | (refine wpList_store_row rfl 56 (.tmp 2) (.tmp 59) rfl g1 56 (cellsN 64 (iv fun _ => 0)) (cellsN 64 (iv (cutN q (ufLab m j)))) rfl rfl HR.out (by rw [cellsN_size]; exact Try.size56) (by rw [cellsN_size, cellsN_size]) (cellsN_one _ _ fun _ => rfl) ?_))
              refine bodyPost_ret (v := .agg (cellsN 64 (iv (cutN q (ufLab m j))))) (results_cell_row (fn := Try.f57) rfl _ _ g1 56 (cellsN 64 (iv (cutN q (ufLab m j)))) (0, 0) _ rfl (setRow_heap _ _ _ _ _ _ HR.out) Try.underlying56 rfl (by rw [cellsN_size]; exact Try.size56)) rfl ⟨rfl, below_setRow' HB.out (by omega) _⟩

end Go.Proofs.Ytcllnoigppkjiaa
