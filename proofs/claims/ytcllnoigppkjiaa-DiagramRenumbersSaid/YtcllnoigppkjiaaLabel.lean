/- Walk of the reference's Label. -/
import Derived.Test.YtcllnoigppkjiaaRFace
namespace Go.Proofs.Ytcllnoigppkjiaa
open Go.RowKit

theorem OI.of_arr {w : World} {g n B : Nat} {L : Nat → Nat} (h : Arr w g 3 n (iv L)) (hB : B ≤ g) (hn : n ≤ 1000000) : OI w B (.slice (some ⟨g, 0, none⟩) n n) ((List.range n).map fun i => (L i : Int)) := by
  refine ⟨by simp [ints], .inr ⟨g, n, cellsN n (iv L), by simp, hB, h, by simp, by unfold maxLen; omega, by simp [cellsN], ?_⟩⟩
  simp [cellsN, ints]
  rw [List.take_of_length_le (by simp)]
  rfl

theorem lowStep_same (m l : Nat → Nat) (h : Nat) (e : h / 4 = m h / 4) : lowStep m l h = upd l (m h / 4) (min (l (h / 4)) (l (m h / 4))) := by
  funext i; unfold lowStep upd; rw [e]; split <;> rfl

set_option maxHeartbeats 3200000 in
set_option maxRecDepth 100000 in
theorem label_any (B : Option Addr) (nm cm n : Nat) (mate : List Int) (m : Nat → Nat) (w : World) (hm : RI w B nm mate) (hmm : Mates mate nm m) (hn : nm = 4 * n) (hN : nm ≤ 256) :
    Calls Try.prog 48 #[.slice B nm cm] w (CycPost w ((List.range n).map fun i => (labAt m nm n i : Int))) := by
  have hmk := fun W => make_one (P := Try.prog) Try.underlying22 Try.infoInt rfl n (by omega) (by omega) W
  have hb0 := below_alloc w (.cells (cellsN n fun _ => .int .i64 0) 3)
  have ha0 := Arr.new w n 3 (iv fun _ => 0)
  have HMM := Lib.hid hmm
  have HN := Lib.hid hn
  have hdiv : IntKind.i64.wrap ((nm : Int) / 4) = (n : Int) := by rw [IntWalk.i64_in _ (by omega)]; omega
  have hdiv' : (nm : Int) / 4 = (n : Int) := by omega
  clear hmm hn
  go_enter Try.func48, Try.ntmps48
  go_wp2
  have hz : (cellsN n fun _ => Value.int .i64 0) = cellsN n (iv fun _ => 0) := rfl
  rw [hz] at hb0 ⊢
  generalize w.alloc (.cells (cellsN n (iv fun _ => 0)) 3) = wA at ha0 hb0 ⊢
  clear hz hmk hdiv
  go_loopw [5] (fun i wr => ∃ k : Nat, k ≤ n ∧ i = .int .i64 k ∧ Below w.heap.size w wr ∧ Arr wr w.heap.size 3 n (iv (cutN k fun i => i))) (fun i _ => n - (intOf i).toNat)
  case atStart => exact ⟨0, by omega, rfl, hb0, ha0⟩
  case round =>
    obtain ⟨k, hk, rfl, hbr, har⟩ := hrel
    by_cases hlt : k < n
    · have hcell := har.cell k hlt
      have hfz := har.frozen k
      have hk0 : (0 : Int) ≤ (k : Int) := Int.natCast_nonneg _
      have hk1 : (k : Int) < (n : Int) := by omega
      have HZ := Lib.hid (show Arr (wr.setCell ⟨w.heap.size, k, none⟩ (.int .i64 (k : Nat))) w.heap.size 3 n (iv (cutN (k + 1) fun i => i)) from by have := har.seti k k; rwa [cutN_grow (fun i => i) k] at this)
      clear har ha0
      go_wp2
      go_roundw
      case rel => exact ⟨k + 1, by omega, by go_num, below_set hbr (Nat.le_refl _) _, HZ.out⟩
      case measure => simp [intOf]; omega
    · obtain rfl : k = n := by omega
      have har0 : Arr wr w.heap.size 3 k (iv (labAt m nm 0)) := har.congr fun i hi => by simp [iv, cutN, labAt, hi]
      obtain ⟨wB, hwB⟩ : ∃ wB : World, wB = wr := ⟨_, rfl⟩
      subst hwB
      clear hlt hk har ha0 hb0
      go_wp2
      go_loopw [6, 7, 8, 9, 10] (fun i _ _ _ _ wr => ∃ p : Nat, p ≤ k ∧ i = .int .i64 p ∧ Below w.heap.size w wr ∧ Arr wr w.heap.size 3 k (iv (labAt m nm p))) (fun i _ _ _ _ _ => k - (intOf i).toNat)
      case atStart => exact ⟨0, by omega, rfl, hbr, har0⟩
      case round =>
        obtain ⟨p, hp, rfl, hbp, hap⟩ := hrel
        by_cases hlt : p < k
        · obtain ⟨wC, hwC⟩ : ∃ wC : World, wC = wr := ⟨_, rfl⟩
          subst hwC
          have hap0 : Arr wC w.heap.size 3 k (iv (passAt m (labAt m nm p) 0)) := hap
          clear hap har0
          go_wp2
          go_loopw [7, 8, 9, 10] (fun i _ _ _ wr => ∃ q : Nat, q ≤ nm ∧ i = .int .i64 q ∧ Below w.heap.size w wr ∧ Arr wr w.heap.size 3 k (iv (passAt m (labAt m nm p) q))) (fun i _ _ _ _ => nm - (intOf i).toNat)
          case atStart => exact ⟨0, by omega, rfl, hbp, hap0⟩
          case round =>
            obtain ⟨q, hq, rfl, hbq, haq⟩ := hrel
            by_cases hql : q < nm
            · obtain ⟨b, off, rfl, hbb, hc⟩ := (hm.keep hbq).2 (by omega)
              have hcq := hc q hql
              obtain ⟨hmq, hml⟩ := HMM.out q hql
              rw [hmq] at hcq
              have hq4 : q / 4 < k := by have := HN.out; omega
              have hm4 : m q / 4 < k := by have := HN.out; omega
              have hca := haq.cell (q / 4) hq4
              have hcb := haq.cell (m q / 4) hm4
              have hfa := haq.frozen (q / 4)
              have hfb := haq.frozen (m q / 4)
              have hle1 := pass_le m (labAt m nm p) q (q / 4)
              have hle2 := pass_le m (labAt m nm p) q (m q / 4)
              have hle3 := lab_le m nm p (q / 4)
              have hle4 := lab_le m nm p (m q / 4)
              have hx : passAt m (labAt m nm p) q (q / 4) ≤ 1000 := by omega
              have hy : passAt m (labAt m nm p) q (m q / 4) ≤ 1000 := by omega
              have hstep : Arr ((wr.setCell ⟨w.heap.size, q / 4, none⟩ (.int .i64 (min (passAt m (labAt m nm p) q (q / 4)) (passAt m (labAt m nm p) q (m q / 4)) : Nat))).setCell ⟨w.heap.size, m q / 4, none⟩ (.int .i64 (min (passAt m (labAt m nm p) q (q / 4)) (passAt m (labAt m nm p) q (m q / 4)) : Nat))) w.heap.size 3 k (iv (passAt m (labAt m nm p) (q + 1))) :=
                (haq.seti (q / 4) _).seti (m q / 4) _
              have hcb2 := (haq.seti (q / 4) (min (passAt m (labAt m nm p) q (q / 4)) (passAt m (labAt m nm p) q (m q / 4)))).cell (m q / 4) hm4
              have hfb2 := (haq.seti (q / 4) (min (passAt m (labAt m nm p) q (q / 4)) (passAt m (labAt m nm p) q (m q / 4)))).frozen (m q / 4)
              have hb2 : Below w.heap.size w ((wr.setCell ⟨w.heap.size, q / 4, none⟩ (.int .i64 (min (passAt m (labAt m nm p) q (q / 4)) (passAt m (labAt m nm p) q (m q / 4)) : Nat))).setCell ⟨w.heap.size, m q / 4, none⟩ (.int .i64 (min (passAt m (labAt m nm p) q (q / 4)) (passAt m (labAt m nm p) q (m q / 4)) : Nat))) :=
                below_set (below_set hbq (Nat.le_refl _) _) (Nat.le_refl _) _
              generalize upd (passAt m (labAt m nm p) q) (q / 4) (min (passAt m (labAt m nm p) q (q / 4)) (passAt m (labAt m nm p) q (m q / 4))) (m q / 4) = z at hcb2
              have HZ := Lib.hid hstep
              have HB := Lib.hid hb2
              have H1 := Lib.hid hcb2
              have H2 := Lib.hid hfb2
              clear hstep hb2 hcb2 hfb2 haq hc hmq hle1 hle2 hle3 hle4 hap0
              have hca' : wr.cell? ⟨w.heap.size, q / 4, none⟩ = some (.int .i64 (passAt m (labAt m nm p) q (q / 4) : Nat)) := hca
              have hcb' : wr.cell? ⟨w.heap.size, m q / 4, none⟩ = some (.int .i64 (passAt m (labAt m nm p) q (m q / 4) : Nat)) := hcb
              clear hca hcb
              generalize passAt m (labAt m nm p) q (q / 4) = x at *
              generalize passAt m (labAt m nm p) q (m q / 4) = y at *
              generalize hmx : m q = mq at *
              clear hmx
              have hq0 : (0 : Int) ≤ (q : Int) := Int.natCast_nonneg _
              have hq1 : (q : Int) < (nm : Int) := by omega
              have hm0 : (0 : Int) ≤ (mq : Int) := Int.natCast_nonneg _
              have hx0 : (0 : Int) ≤ (x : Int) := Int.natCast_nonneg _
              have hy0 : (0 : Int) ≤ (y : Int) := Int.natCast_nonneg _
              have hq41 : (q : Int) / 4 < (k : Int) := by omega
              have hm41 : (mq : Int) / 4 < (k : Int) := by omega
              have hq40 : (0 : Int) ≤ (q : Int) / 4 := by omega
              have hm40 : (0 : Int) ≤ (mq : Int) / 4 := by omega
              have hw1 : IntKind.i64.wrap ((q : Int) / 4) = (q : Int) / 4 := IntWalk.i64_in _ (by omega)
              have hw2 : IntKind.i64.wrap ((mq : Int) / 4) = (mq : Int) / 4 := IntWalk.i64_in _ (by omega)
              have hcs : (x < y ∧ min x y = x) ∨ (x = y ∧ min x y = y) ∨ (y < x ∧ min x y = y) := by omega
              have hmn : min x y ≤ 1000 := by omega
              generalize min x y = lo at *
              go_wp2
              go_quiet (fail)
              go_wp2
              obtain ⟨v1, h1⟩ : ∃ v, ∀ N, ((wr.drewN N).setCell ⟨w.heap.size, q / 4, none⟩ (.int .i64 (lo : Nat))).cell? ⟨w.heap.size, mq / 4, none⟩ = some v := ⟨_, fun _ => H1.out⟩
              have h2 : ∀ N, ((wr.drewN N).setCell ⟨w.heap.size, q / 4, none⟩ (.int .i64 (lo : Nat))).frozen? ⟨w.heap.size, mq / 4, none⟩ = false := fun _ => H2.out
              clear H1 H2
              rcases hcs with ⟨hxy, rfl⟩ | ⟨rfl, rfl⟩ | ⟨hxy, rfl⟩
              all_goals
                go_quiet (fail)
                go_wp2
                go_roundw
                case rel => exact ⟨q + 1, by omega, by go_num, below_set (below_set (below_drewN hbq _) (Nat.le_refl _) _) (Nat.le_refl _) _, HZ.out⟩
                case measure => simp [intOf]; omega
            · obtain rfl : q = nm := by omega
              have hap1 : Arr wr w.heap.size 3 k (iv (labAt m q (p + 1))) := haq
              clear haq hql hq hap0
              have hp0 : (0 : Int) ≤ (p : Int) := Int.natCast_nonneg _
              go_wp2
              go_roundw
              case rel => exact ⟨p + 1, by omega, by go_num, hbq, hap1⟩
              case measure => simp [intOf]; omega
        · obtain rfl : p = k := by omega
          have HO := Lib.hid (OI.of_arr hap (Nat.le_refl _) (by have := HN.out; omega))
          clear hlt hp hap har0
          go_wp2
          go_ret
          exact ⟨_, rfl, HO.out, hbp⟩

end Go.Proofs.Ytcllnoigppkjiaa
