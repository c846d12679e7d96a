/- Walk: slices.Repeat of one int. -/
import Derived.Test.YtcllnoigppkjiaaMul
import Derived.Test.YtcllnoigppkjiaaRowsOf
import Derived.Laws.CopyOwn
import Derived.Deep.RegionLaw
namespace Go.Proofs.Ytcllnoigppkjiaa
open Go.RowKit

def fillV (z : Int) (k : Nat) : Nat → Value := fun i => .int .i64 (if i < k then z else 0)
theorem cellsN_list (n : Nat) (V : Nat → Value) : cellsN n V = ((List.range n).map V).toArray := rfl
theorem splice_fill (z : Int) (n k d : Nat) (h : k + d ≤ n) : splice ((List.range n).map (fillV z k)) k (List.replicate d (.int .i64 z)) = (List.range n).map (fillV z (k + d)) := by
  apply List.ext_getElem
  · rw [length_splice _ _ _ (by simp; omega)]; simp
  · intro i h1 h2
    have hi : i < n := by simpa using h2
    simp only [splice, List.getElem_map, List.getElem_range]
    by_cases e1 : i < k
    · rw [List.getElem_append_left (by simp; omega)]
      simp [fillV, e1, show i < k + d by omega]
    · rw [List.getElem_append_right (by simp; omega)]
      by_cases e2 : i < k + d
      · rw [List.getElem_append_left (by simp; omega)]
        simp [fillV, e2]
      · rw [List.getElem_append_right (by simp; omega)]
        simp only [List.getElem_drop, List.getElem_map, List.getElem_range, List.length_replicate, List.length_take, List.length_map, List.length_range]
        have e3 : k + d + (i - min k n - d) = i := by omega
        rw [e3]
        simp [fillV, e1, e2]

theorem copy_src {wr : World} {g n k d j : Nat} {z : Int} {v : Value} (hA : Arr wr g 3 n (fillV z k)) (hd : d ≤ k) (hk : k ≤ n) (hj : (List.replicate d (Value.int IntKind.i64 z))[j]? = some v) : wr.cell? ((⟨g, 0, none⟩ : Addr).add j) = some v := by
  have hjd : j < d := by
    rcases Nat.lt_or_ge j d with h | h
    · exact h
    · rw [List.getElem?_eq_none (by simpa using h)] at hj; cases hj
  have e : v = .int .i64 z := by
    have := List.mem_of_getElem? hj
    exact List.eq_of_mem_replicate this
  have h1 := hA.cell j (by omega)
  rw [e]
  have e2 : fillV z k j = .int .i64 z := by simp [fillV, show j < k by omega]
  rw [e2] at h1
  have ea : (⟨g, 0, none⟩ : Addr).add j = ⟨g, 0 + j, none⟩ := by unfold Addr.add; split <;> simp_all
  rw [ea]
  simpa using h1

set_option maxHeartbeats 1600000 in
set_option maxRecDepth 100000 in
theorem repeat_any (b n : Nat) (z : Int) (w : World) (hb : b < w.heap.size) (hc : w.cell? ⟨b, 0, none⟩ = some (.int .i64 z)) (hn : n ≤ 1000) :
    Calls Try.prog 67 #[.slice (some ⟨b, 0, none⟩) 1 1, .int .i64 (n : Nat)] w fun e w' => e = .returned (.slice (some ⟨w.heap.size, 0, none⟩) n n) ∧ Arr w' w.heap.size 3 n (zv fun _ => z) ∧ Below w.heap.size w w' := by
  have CM := fun W => Lib.hid (mul_one n (by omega) W)
  have hmk := fun W => make_one (P := Try.prog) Try.underlying22 Try.infoInt rfl n (by omega) (by omega) W
  have hwu : IntKind.u64.wrap (n : Int) = (n : Int) := by rw [IntKind.wrap_u64]; omega
  have hn0 : (0 : Int) ≤ (n : Int) := Int.natCast_nonneg _
  have hsz : (Try.prog.info? 3).map (·.size) = some 1 := by kernel_rfl
  have hb0 := below_alloc w (.cells (cellsN n fun _ => .int .i64 0) 3)
  have hg0 : (w.alloc (.cells (cellsN n fun _ => .int .i64 0) 3)).heap[w.heap.size]? = some (.cells ((List.range n).map (fillV z 0)).toArray 3 (0, 0)) := by
    rw [← cellsN_list]
    have : cellsN n (fillV z 0) = cellsN n fun _ => .int .i64 0 := cellsN_congr fun i _ => by simp [fillV]
    rw [this]
    exact heap_alloc_new w _
  by_cases hnz : n = 0
  · have hle : ¬ 0 < n := by omega
    have hmin : Nat.min 1 n = 0 := by rw [hnz]; rfl
    have HG0 := Lib.hid hg0
    have HNZ := Lib.hid hnz
    clear hg0 hnz
    go_enter Try.func67, Try.ntmps67
    go_wp2_with (first
      | (go_at_call 69; ((with_reducible refine (CM _).out.mono ?_); rintro e w1 ⟨rfl, rfl⟩))
      | (with_reducible refine wpList_copy_nothing rfl (.tmp 31) (.tmp 32) 22 22 rfl 3 Try.underlying22 hsz (some ⟨w.heap.size, 0, none⟩) (some ⟨b, 0, none⟩) n n 1 1 rfl rfl hmin ?_))
    go_loopw [8] (fun i wr => i = .int .i64 0 ∧ wr = w.alloc (.cells (cellsN n fun _ => .int .i64 0) 3)) (fun _ _ => 0)
    case atStart => exact ⟨rfl, rfl⟩
    case round =>
      obtain ⟨rfl, rfl⟩ := hrel
      go_wp2
      go_ret
      refine ⟨rfl, ?_, hb0⟩
      unfold Arr
      rw [HG0.out, ← cellsN_list]
      congr 2
      exact cellsN_congr fun i hi => absurd hi (by have := HNZ.out; omega)
  · have hlt : 0 < n := by omega
    have hmin : [Value.int IntKind.i64 z].length = Nat.min 1 n := by
      show 1 = min 1 n
      omega
    have HMIN := Lib.hid hmin
    have HG0 := Lib.hid hg0
    have hcb : (w.alloc (.cells (cellsN n fun _ => .int .i64 0) 3)).cell? ⟨b, 0, none⟩ = some (.int .i64 z) := by rw [World.cell?_alloc_past _ _ _ hb]; exact hc
    have HCB := Lib.hid hcb
    clear hg0 hcb hnz hc hmin
    go_enter Try.func67, Try.ntmps67
    go_wp2_with (first
      | (go_at_call 69; ((with_reducible refine (CM _).out.mono ?_); rintro e w1 ⟨rfl, rfl⟩))
      | (with_reducible refine wpList_copy_splice rfl (.tmp 31) (.tmp 32) 22 22 rfl 3 Try.underlying22 hsz (some ⟨w.heap.size, 0, none⟩) (some ⟨b, 0, none⟩) n n 1 1 rfl rfl w.heap.size 0 ((List.range n).map (fillV z 0)) 3 HG0.out [.int .i64 z] HMIN.out ?c1 ?c2 ?c3 w.heap.size w hb0 (Nat.le_refl _) ?_
         case c1 =>
           intro _
           refine ⟨rfl, _, rfl, fun j v hj => ?_⟩
           match j, hj with
           | 0, hj => (simp at hj; subst hj; exact HCB.out)
         case c2 => (simp; omega)
         case c3 => (intro v hv; simp at hv; subst hv; rfl)
         intro w2 hg2 hb2))
    have hg2' := hg2.out
    have hsp := splice_fill z n 0 1 (by omega)
    have e0 : List.replicate 1 (Value.int IntKind.i64 z) = [.int .i64 z] := rfl
    rw [e0] at hsp
    rw [hsp, ← cellsN_list] at hg2'
    have hA2 : Arr w2 w.heap.size 3 n (fillV z 1) := hg2'
    clear hg2 hg2' hsp e0 HG0 HCB hmk CM hb0 HMIN
    go_loopw [8] (fun i wr => ∃ k : Nat, 0 < k ∧ k ≤ n ∧ i = .int .i64 k ∧ Below w.heap.size w wr ∧ Arr wr w.heap.size 3 n (fillV z k)) (fun i _ => n - (intOf i).toNat)
    case atStart => exact ⟨1, by omega, by omega, rfl, hb2, hA2⟩
    case round =>
      obtain ⟨k, hk0, hk, rfl, hbr, hA⟩ := hrel
      have hki : (0 : Int) ≤ (k : Int) := Int.natCast_nonneg _
      by_cases hkl : k < n
      · have hg3 : wr.drew.heap[w.heap.size]? = some (.cells ((List.range n).map (fillV z k)).toArray 3 (0, 0)) := by rw [← cellsN_list]; exact hA
        have hA3 : Arr wr.drew w.heap.size 3 n (fillV z k) := hA
        obtain ⟨d, hd⟩ : ∃ d, Nat.min k (n - k) = d := ⟨_, rfl⟩
        have hd1 : d ≤ k ∧ k + d ≤ n ∧ 0 < d := by have : Nat.min k (n - k) = min k (n - k) := rfl; omega
        have hcs : (List.replicate d (Value.int IntKind.i64 z)).length = Nat.min k (n - k) := by rw [hd]; simp
        have hbD : Below w.heap.size w wr.drew := hbr.drew
        have hwr1 : IntKind.i64.wrap ((k : Int) + (d : Int)) = (k : Int) + (d : Int) := IntWalk.i64_in _ (by omega)
        have HCS := Lib.hid hcs
        have HD1 := Lib.hid hd1
        have HA3 := Lib.hid hA3
        have HSP := Lib.hid (splice_fill z n k d (by omega))
        have hk1 : (k : Int) < (n : Int) := by omega
        clear hd1 hA hA2 hA3 hd hcs
        go_wp2
        have hne : ¬ n = k := by omega
        obtain ⟨cs, hcs⟩ : ∃ cs, cs = List.replicate d (Value.int IntKind.i64 z) := ⟨_, rfl⟩
        have hcl : cs.length = d := by rw [hcs]; simp
        have HCE := Lib.hid hcs
        have HCN : Hid (cs.length = Nat.min k (n - k)) := by rw [hcs]; exact HCS.out
        clear hcs HCS
        go_region_law (refine step_copy_splice rfl (.tmp 41) (.tmp 44) 22 22 rfl 3 Try.underlying22 hsz (some ⟨w.heap.size, k, none⟩) (some ⟨w.heap.size, 0, none⟩) (n - k) (n - k) k n ?h1 ?h2 w.heap.size k ((List.range n).map (fillV z k)) 3 hg3 cs HCN.out ?c1 ?c2 ?c3 w.heap.size w hbD (Nat.le_refl _) ?c4
                       case h1 => go_simp
                       case h2 => go_simp
                       case c1 => exact fun _ => ⟨rfl, _, rfl, fun j v hj => copy_src HA3.out HD1.out.1 hk (by rw [← HCE.out]; exact hj)⟩
                       case c2 => (simp only [List.length_map, List.length_range, hcl]; exact HD1.out.2.1)
                       case c3 => exact fun v hv => by rw [HCE.out] at hv; rw [List.eq_of_mem_replicate hv]; rfl
                       intro w4 hg4 hb4)
        have hg4' := hg4.out
        rw [HCE.out, HSP.out, ← cellsN_list] at hg4'
        have hA4 : Arr w4 w.heap.size 3 n (fillV z (k + d)) := hg4'
        clear hg4 hg4' hg3
        simp only [List.getElem_toArray, List.getElem_cons_succ, List.getElem_cons_zero, Act.put, List.setIfInBounds_toArray, List.set_cons_succ, List.set_cons_zero]
        go_wp2
        go_roundw
        case rel => exact ⟨k + d, by omega, HD1.out.2.1, by go_num, hb4, hA4⟩
        case measure => have := HD1.out; simp [intOf]; omega
      · obtain rfl : n = k := by omega
        clear hkl hk hki hlt hA2
        have hfin : Arr wr w.heap.size 3 n (zv fun _ => z) := hA.congr fun i hi => by simp [fillV, hi]
        go_wp2
        go_ret
        exact ⟨rfl, hfin, hbr⟩

end Go.Proofs.Ytcllnoigppkjiaa
