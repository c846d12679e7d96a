import Derived.Test.YtdacjnmfmhkpiaaGreatDoorD05
import Derived.ProofKit
/- Walk: countParts. -/
namespace Go.Proofs.YtdacjnmfmhkpiaaGreatDoor
open Go.RowKit

/-- How many numbers below n are their own roots. -/
def nRoots (L : Nat → Nat) (n : Nat) : Nat := ((List.range n).filter (fun c => decide (L c = c))).length
theorem nRoots_le (L : Nat → Nat) (n : Nat) : nRoots L n ≤ n := by
  unfold nRoots
  have := List.length_filter_le (fun c => decide (L c = c)) (List.range n)
  simpa using this
theorem nRoots_succ (L : Nat → Nat) (n : Nat) : nRoots L (n + 1) = nRoots L n + if L n = n then 1 else 0 := by
  unfold nRoots
  rw [List.range_succ, List.filter_append]
  by_cases h : L n = n <;> simp [h]
theorem nRoots_upd_ge (L : Nat → Nat) (hi lo n : Nat) (h : n ≤ hi) : nRoots (upd L hi lo) n = nRoots L n := by
  induction n with
  | zero => rfl
  | succ n ih => rw [nRoots_succ, nRoots_succ, ih (by omega), upd_other _ _ _ _ (by omega)]
theorem nRoots_upd (L : Nat → Nat) (hi lo n : Nat) (h : hi < n) (h1 : L hi = hi) (h2 : lo ≠ hi) : nRoots L n = nRoots (upd L hi lo) n + 1 := by
  induction n with
  | zero => omega
  | succ n ih =>
    rw [nRoots_succ, nRoots_succ]
    by_cases e : hi = n
    · subst e
      rw [nRoots_upd_ge _ _ _ _ (Nat.le_refl _), upd_same, if_pos h1, if_neg h2]
    · rw [ih (by omega), upd_other _ _ _ _ (by omega)]; omega
theorem nRoots_id (n : Nat) : nRoots (fun i => i) n = n := by
  induction n with
  | zero => rfl
  | succ n ih => rw [nRoots_succ, ih]; simp
theorem upd_self (L : Nat → Nat) (a : Nat) (h : L a = a) : upd L a a = L := by
  funext i; unfold upd; by_cases e : i = a
  · subst e; rw [if_pos rfl, h]
  · rw [if_neg e]

set_option maxHeartbeats 800000 in
theorem gfind_any (gb g n c0 c : Nat) (L : Nat → Nat) (w : World) (hb : w.cell? ⟨gb, 0, none⟩ = some (.slice (some ⟨g, 0, none⟩) n c0)) (hA : Arr w g 3 n (iv L)) (hL : ∀ i, L i ≤ i) (hc : c < n) (_ : n ≤ 1000) :
    Calls Tryz.prog 95 #[.int .i64 (c : Nat), .pointer (some ⟨gb, 0, none⟩)] w fun e w' => e = .returned (.int .i64 (root L c : Nat)) ∧ w = w' := by
  go_enter Tryz.func95, Tryz.ntmps95
  go_wp2
  go_loop [0] (fun i => ∃ k : Nat, k < n ∧ i = .int .i64 k ∧ root L k = root L c) (fun i => (intOf i).toNat)
  case atStart => exact ⟨c, hc, rfl, rfl⟩
  case round =>
    obtain ⟨k, hk, rfl, hr⟩ := hrel
    have HR := Lib.hid hr
    clear hr
    have hcell : w.cell? ⟨g, k, none⟩ = some (.int .i64 (L k : Nat)) := hA.cell k hk
    have hk0 : (0 : Int) ≤ (k : Int) := Int.natCast_nonneg _
    have hk1 : (k : Int) < (n : Int) := by omega
    by_cases hlt : L k < k
    · have hne : ((L k : Int) != (k : Int)) = true := by simp; omega
      have HS := Lib.hid (root_step L k hlt)
      clear hL
      generalize hx : L k = x at hcell hlt hne HS
      clear hx
      go_wp2
      go_round
      case rel => exact ⟨x, by omega, rfl, HS.out.symm.trans HR.out⟩
      case measure => simp [intOf]; omega
    · have hx : L k = k := by have := hL k; omega
      have HF := Lib.hid (root_fix L k hlt)
      rw [hx] at hcell
      clear hL hlt hx
      go_wp2
      go_ret
      exact ⟨ret_int (by rw [← HR.out, HF.out]), rfl⟩

theorem gfind_intw (x : Int) (gb g n c0 c : Nat) (hx : x = (c : Nat)) (L : Nat → Nat) (w : World) (hb : w.cell? ⟨gb, 0, none⟩ = some (.slice (some ⟨g, 0, none⟩) n c0)) (hA : Arr w g 3 n (iv L)) (hL : ∀ i, L i ≤ i) (hc : c < n) (hn : n ≤ 1000) (r : Nat) (hr : root L c = r) :
    Calls Tryz.prog 95 #[.int .i64 x, .pointer (some ⟨gb, 0, none⟩)] w fun e w' => e = .returned (.int .i64 (r : Nat)) ∧ w = w' := by
  subst hx; subst hr
  exact gfind_any gb g n c0 c L w hb hA hL hc hn
set_option maxHeartbeats 3200000 in
set_option maxRecDepth 100000 in
theorem cparts_any (A : Option Addr) (nm c ns : Nat) (mate : List Int) (m : Nat → Nat) (w : World) (hm : RI w A nm mate) (hmm : Mates mate nm m) (hnm : nm = 4 * ns) (hns : ns ≤ 64) :
    Calls Tryz.prog 76 #[.slice A nm c] w fun e w' => e = .returned (.int .i64 (nRoots (ufAt m nm) ns : Nat)) ∧ Below w.heap.size w w' := by
  have HNM := Lib.hid hnm
  have HMM := Lib.hid hmm
  have hq : (nm : Int).tdiv 4 = (ns : Int) := by rw [hnm, Int.tdiv_eq_ediv_of_nonneg (by omega)]; omega
  have hq' : (nm : Int) / 4 = (ns : Int) := by rw [hnm]; omega
  have hmk := fun W => make_one (P := Tryz.prog) Tryz.underlying22 Tryz.infoInt rfl ns (by omega) (by omega) W
  have hl : Arr ((w.alloc (.cells (cellsN ns fun _ => .int .i64 0) 3)).alloc (.cells #[.slice (some ⟨w.heap.size, 0, none⟩) ns ns] 22)) w.heap.size 3 ns (iv (cutN 0 fun i => i)) :=
    (Arr.alloc ((Arr.new w ns 3 (fun _ => .int .i64 0)).congr fun i _ => by simp [iv, cutN]) _)
  have hbx : ((w.alloc (.cells (cellsN ns fun _ => .int .i64 0) 3)).alloc (.cells #[.slice (some ⟨w.heap.size, 0, none⟩) ns ns] 22)).cell? ⟨w.heap.size + 1, 0, none⟩ = some (.slice (some ⟨w.heap.size, 0, none⟩) ns ns) := by
    rw [World.cell?_alloc_at _ _ _ _ (by simp)]; rfl
  have hsz : ((w.alloc (.cells (cellsN ns fun _ => .int .i64 0) 3)).alloc (.cells #[.slice (some ⟨w.heap.size, 0, none⟩) ns ns] 22)).heap.size = w.heap.size + 2 := by simp
  have hb0 := below_step (below_alloc w (.cells (cellsN ns fun _ => .int .i64 0) 3)) (below_alloc _ (.cells #[.slice (some ⟨w.heap.size, 0, none⟩) ns ns] 22))
  clear hnm hmm
  go_enter Tryz.func76, Tryz.ntmps76
  go_upto_region 3 with fail
  generalize (w.alloc (.cells (cellsN ns fun _ => .int .i64 0) 3)).alloc (.cells #[.slice (some ⟨w.heap.size, 0, none⟩) ns ns] 22) = wA at *
  obtain ⟨gb, hgb⟩ : ∃ gb, w.heap.size + 1 = gb := ⟨_, rfl⟩
  rw [hgb] at hbx ⊢
  have hgbl : w.heap.size < gb := by omega
  have hgbA : gb < wA.heap.size := by omega
  clear hsz hgb hmk hq hq'
  go_wp2
  go_loopw [5, 18] (fun _ i wr => ∃ k : Nat, k ≤ ns ∧ i = .int .i64 k ∧ Below w.heap.size w wr ∧ wr.cell? ⟨gb, 0, none⟩ = some (.slice (some ⟨w.heap.size, 0, none⟩) ns ns) ∧ Arr wr w.heap.size 3 ns (iv (cutN k fun i => i))) (fun _ i _ => ns - (intOf i).toNat)
  case atStart => exact ⟨0, by omega, rfl, hb0, hbx, hl⟩
  case round =>
    obtain ⟨k, hk, rfl, hbr, hbc, har⟩ := hrel
    have hk0 : (0 : Int) ≤ (k : Int) := Int.natCast_nonneg _
    by_cases hlt : k < ns
    · have hcell := har.cell k hlt
      have hfz := har.frozen k
      have hk1 : (k : Int) < (ns : Int) := by omega
      have HZ : Hid (Arr (wr.setCell ⟨w.heap.size, k, none⟩ (.int .i64 (k : Nat))) w.heap.size 3 ns (iv (cutN (k + 1) fun i => i))) := by
        have := har.seti k k; rwa [cutN_grow (fun i => i) k] at this
      have hbc' : (wr.setCell ⟨w.heap.size, k, none⟩ (.int .i64 (k : Nat))).cell? ⟨gb, 0, none⟩ = some (.slice (some ⟨w.heap.size, 0, none⟩) ns ns) := (World.cell?_setCell_other _ _ _ _ (by simp <;> omega)).trans hbc
      have HBC := Lib.hid hbc'
      clear hbc' har
      go_wp2
      go_roundw
      case rel => exact ⟨k + 1, by omega, by go_num, below_set hbr (Nat.le_refl _) _, HBC.out, HZ.out⟩
      case measure => simp [intOf]; omega
    · obtain rfl : ns = k := by omega
      have harB : Arr wr w.heap.size 3 ns (iv (ufAt m 0)) := har.congr fun i hi => by simp [iv, cutN, hi, ufAt]
      have hmf : ∀ (fn : Fn) (first cap : Array Value) (w : World), (Instr.makeFunc fn first cap).run Tryz.prog w = .ok (.func fn first cap) w := fun _ _ _ _ => rfl
      have hr0 : nRoots (ufAt m 0) ns = ns := nRoots_id ns
      have HR0 := Lib.hid hr0
      obtain ⟨wB, hwB⟩ : ∃ wB : World, wB = wr := ⟨_, rfl⟩
      subst hwB
      clear hlt hk har hr0
      go_wp2
      go_loopw [3, 7, 8, 9, 10, 29] (fun cv _ _ _ _ i wr => ∃ j : Nat, j ≤ nm ∧ i = .int .i64 j ∧ cv = .int .i64 (nRoots (ufAt m j) ns : Nat) ∧ Below w.heap.size w wr ∧ wr.cell? ⟨gb, 0, none⟩ = some (.slice (some ⟨w.heap.size, 0, none⟩) ns ns) ∧ Arr wr w.heap.size 3 ns (iv (ufAt m j))) (fun _ _ _ _ _ i _ => nm - (intOf i).toNat)
      case atStart => exact ⟨0, by omega, rfl, by rw [HR0.out], hbr, hbc, harB⟩
      case round =>
        obtain ⟨j, hj, rfl, rfl, hbj, hbcj, haj⟩ := hrel
        have hnm4 := HNM.out
        by_cases hlt : j < nm
        · obtain ⟨b, off, hAe, hbb, hc⟩ := (hm.keep hbj).2 (by omega)
          subst hAe
          have hcj := hc j hlt
          obtain ⟨hmj, hml⟩ := HMM.out j hlt
          rw [hmj] at hcj
          have hj4 : j / 4 < ns := by omega
          have hm4 : m j / 4 < ns := by omega
          have HL := Lib.hid (ufAt_le m j)
          have hrx := root_is (ufAt m j) (j / 4)
          have hry := root_is (ufAt m j) (m j / 4)
          have hlx := ufAt_le m j (root (ufAt m j) (j / 4))
          have hly := ufAt_le m j (root (ufAt m j) (m j / 4))
          have hrx1 := root_le (ufAt m j) (j / 4)
          have hry1 := root_le (ufAt m j) (m j / 4)
          have hstep : ufAt m (j + 1) = upd (ufAt m j) (max (root (ufAt m j) (j / 4)) (root (ufAt m j) (m j / 4))) (min (root (ufAt m j) (j / 4)) (root (ufAt m j) (m j / 4))) := rfl
          have C1 := Lib.hid (gfind_intw ((j : Int) / 4) gb w.heap.size ns ns (j / 4) (by omega) (ufAt m j) wr hbcj haj HL.out hj4 (by omega) _ rfl)
          have C2 := Lib.hid (gfind_intw ((m j : Int) / 4) gb w.heap.size ns ns (m j / 4) (by omega) (ufAt m j) wr hbcj haj HL.out hm4 (by omega) _ rfl)
          obtain ⟨x, hx⟩ : ∃ x, root (ufAt m j) (j / 4) = x := ⟨_, rfl⟩
          obtain ⟨y, hy⟩ : ∃ y, root (ufAt m j) (m j / 4) = y := ⟨_, rfl⟩
          rw [hx] at hrx hlx hrx1 hstep C1
          rw [hy] at hry hly hry1 hstep C2
          have hxx : ufAt m j x = x := by omega
          have hyy : ufAt m j y = y := by omega
          have hxn : x < ns := by omega
          have hyn : y < ns := by omega
          have hHA := Lib.hid haj
          have hrn := nRoots_le (ufAt m j) ns
          have HSTEP := Lib.hid hstep
          obtain ⟨mj, hmx⟩ : ∃ mj, m j = mj := ⟨_, rfl⟩
          rw [hmx] at hcj hm4 hml C2
          clear hrx hry hlx hly hx hy hc hmj hmx hstep hnm4 hrx1 hry1 haj
          have hj0 : (0 : Int) ≤ (j : Int) := Int.natCast_nonneg _
          have hj1 : (j : Int) < (nm : Int) := by omega
          have hmj0 : (0 : Int) ≤ (mj : Int) := Int.natCast_nonneg _
          have hx0 : (0 : Int) ≤ (x : Int) := Int.natCast_nonneg _
          have hy0 : (0 : Int) ≤ (y : Int) := Int.natCast_nonneg _
          have hxi : (x : Int) < (ns : Int) := by omega
          have hyi : (y : Int) < (ns : Int) := by omega
          have hw1 : IntKind.i64.wrap ((j : Int) / 4) = (j : Int) / 4 := IntWalk.i64_in _ (by omega)
          have hw2 : IntKind.i64.wrap ((mj : Int) / 4) = (mj : Int) / 4 := IntWalk.i64_in _ (by omega)
          by_cases hxy : x = y
          · subst hxy
            have hs2 : ufAt m (j + 1) = ufAt m j := by rw [HSTEP.out, Nat.max_self, Nat.min_self]; exact upd_self _ _ hxx
            have HS2 := Lib.hid hs2
            obtain ⟨rr, hrr⟩ : ∃ rr, nRoots (ufAt m j) ns = rr := ⟨_, rfl⟩
            rw [hrr] at hrn ⊢
            have HRR := Lib.hid hrr
            clear hs2 hxx hyy HSTEP hrr
            go_wp2_with (first
              | (go_at_call 95; ((with_reducible refine C1.out.mono ?_); rintro e w' ⟨rfl, rfl⟩))
              | (go_at_call 95; ((with_reducible refine C2.out.mono ?_); rintro e w' ⟨rfl, rfl⟩)))
            go_roundw
            case rel => exact ⟨j + 1, by omega, by go_num, by rw [HS2.out, HRR.out], hbj, hbcj, by rw [HS2.out]; exact hHA.out⟩
            case measure => simp [intOf]; omega
          · have hcases : ∃ hi lo : Nat, hi < ns ∧ max x y = hi ∧ min x y = lo ∧ lo ≠ hi ∧ ufAt m j hi = hi ∧ ((x < y ∧ hi = y ∧ lo = x) ∨ (y < x ∧ hi = x ∧ lo = y)) := by
              rcases Nat.lt_or_gt_of_ne hxy with h | h
              · exact ⟨y, x, hyn, by omega, by omega, by omega, hyy, .inl ⟨h, rfl, rfl⟩⟩
              · exact ⟨x, y, hxn, by omega, by omega, by omega, hxx, .inr ⟨h, rfl, rfl⟩⟩
            obtain ⟨hi, lo, hhi, ehi, elo, hlh, hroot, hcs⟩ := hcases
            have hs2 := HSTEP.out
            rw [ehi, elo] at hs2
            have hnr := nRoots_upd (ufAt m j) hi lo ns hhi hroot hlh
            rw [← hs2] at hnr
            obtain ⟨rr, hrr⟩ : ∃ rr, nRoots (ufAt m j) ns = rr := ⟨_, rfl⟩
            rw [hrr] at hrn hnr ⊢
            have hr1 : (1 : Int) ≤ (rr : Int) := by omega
            have HNR : Hid (((rr : Int) - 1) = ((nRoots (ufAt m (j + 1)) ns : Nat) : Int)) := Lib.hid (by omega)
            have hcx := hHA.out.cell hi hhi
            have hfx := hHA.out.frozen hi
            have HZ : Hid (Arr (wr.setCell ⟨w.heap.size, hi, none⟩ (.int .i64 (lo : Nat))) w.heap.size 3 ns (iv (ufAt m (j + 1)))) := by
              have := hHA.out.seti hi lo
              rw [← hs2] at this
              exact this
            have hbc' : (wr.setCell ⟨w.heap.size, hi, none⟩ (.int .i64 (lo : Nat))).cell? ⟨gb, 0, none⟩ = some (.slice (some ⟨w.heap.size, 0, none⟩) ns ns) := (World.cell?_setCell_other _ _ _ _ (by simp <;> omega)).trans hbcj
            have HBC := Lib.hid hbc'
            have hne1 : ((x : Int) != (y : Int)) = true := by simp only [bne_iff_ne, ne_eq]; omega
            clear ehi elo hs2 hnr hrr hroot hxx hyy hbc' HSTEP
            generalize ufAt m j hi = pv at hcx
            rcases hcs with ⟨hlt2, rfl, rfl⟩ | ⟨hlt2, rfl, rfl⟩
            all_goals
              go_wp2_with (first
                | (go_at_call 95; ((with_reducible refine C1.out.mono ?_); rintro e w' ⟨rfl, rfl⟩))
                | (go_at_call 95; ((with_reducible refine C2.out.mono ?_); rintro e w' ⟨rfl, rfl⟩)))
              go_roundw
              case rel => exact ⟨j + 1, by omega, by go_num, by rw [HNR.out], below_set hbj (Nat.le_refl _) _, HBC.out, HZ.out⟩
              case measure => simp [intOf]; omega
        · obtain rfl : j = nm := by omega
          clear hlt hj
          go_wp2
          go_ret
          exact ⟨rfl, hbj⟩

end Go.Proofs.YtdacjnmfmhkpiaaGreatDoor

/- Walks: outgoing, incoming. -/
namespace Go.Proofs.YtdacjnmfmhkpiaaGreatDoor
open Go.RowKit

/-- The half-edge by which a visit leaves its crossing. -/
def outN (s : List Int) (c : Nat) (o : Bool) : Nat := if o = false then 4 * c + 2 else if s.getD c 0 = 1 then 4 * c + 1 else 4 * c + 3
/-- .. by which it enters. -/
def inN (s : List Int) (c : Nat) (o : Bool) : Nat := if o = false then 4 * c else if s.getD c 0 = 1 then 4 * c + 3 else 4 * c + 1

set_option maxHeartbeats 800000 in
theorem goutgoing_any (c : Nat) (o : Bool) (S : Option Addr) (ns cs : Nat) (s : List Int) (w : World) (hr : RI w S ns s) (hc : c < ns) (hns : ns ≤ 1000) :
    Calls Tryz.prog 74 #[.agg #[.int .i64 (c : Nat), .bool o], .slice S ns cs] w fun e w' => e = .returned (.int .i64 (outN s c o : Nat)) ∧ Below w.heap.size w w' := by
  obtain ⟨b, off, rfl, hb, hcc⟩ := hr.2 (by omega)
  have z0 : (w.alloc (.cells #[.int .i64 (c : Nat), .bool o] 51)).cell? ⟨b, off + c, none⟩ = some (.int .i64 (s.getD c 0)) := by
    rw [World.cell?_alloc_past _ _ _ hb]; exact hcc _ hc
  have hci : (c : Int) < (ns : Int) := by omega
  clear hcc hr
  cases o with
  | false =>
    have e : outN s c false = 4 * c + 2 := by simp [outN]
    rw [e]
    clear e z0
    go_enter Tryz.func74, Tryz.ntmps74
    go_wp2
    go_ret
    exact ⟨ret_int (by omega), below_alloc _ _⟩
  | true =>
    by_cases h1 : s.getD c 0 = 1
    · have e : outN s c true = 4 * c + 1 := by simp only [outN, h1]; simp
      rw [e]
      rw [h1] at z0
      clear e h1
      go_enter Tryz.func74, Tryz.ntmps74
      go_wp2
      go_ret
      exact ⟨ret_int (by omega), below_alloc _ _⟩
    · have e : outN s c true = 4 * c + 3 := by simp only [outN, h1]; simp
      have h1' : (s.getD c 0 == 1) = false := by simp only [beq_eq_false_iff_ne, ne_eq]; exact h1
      rw [e]
      clear e h1
      generalize s.getD c 0 = x at z0 h1'
      go_enter Tryz.func74, Tryz.ntmps74
      go_wp2
      go_ret
      exact ⟨ret_int (by omega), below_alloc _ _⟩

set_option maxHeartbeats 800000 in
theorem gincoming_any (c : Nat) (o : Bool) (S : Option Addr) (ns cs : Nat) (s : List Int) (w : World) (hr : RI w S ns s) (hc : c < ns) (hns : ns ≤ 1000) :
    Calls Tryz.prog 75 #[.agg #[.int .i64 (c : Nat), .bool o], .slice S ns cs] w fun e w' => e = .returned (.int .i64 (inN s c o : Nat)) ∧ Below w.heap.size w w' := by
  have C1 := Lib.hid (goutgoing_any c o S ns cs s (w.alloc (.cells #[.int .i64 (c : Nat), .bool o] 51)) (hr.alloc _) hc hns)
  have hlt : outN s c o ≤ 10000 := by unfold outN; split <;> (try split) <;> omega
  have C2 : ∀ W, Hid (Calls Tryz.prog 90 #[.int .i64 (outN s c o : Nat)] W fun e w' => e = .returned (.int .i64 (inN s c o : Nat)) ∧ W = w') := fun W => by
    have h := opposite_any (outN s c o : Nat) W (by omega) (by omega)
    have e : turnI (outN s c o : Nat) 2 = (inN s c o : Nat) := by
      rw [turnI_opp]
      unfold outN inN trn
      split
      · omega
      · split <;> omega
    rw [e] at h
    exact h
  clear hr
  generalize outN s c o = x at *
  generalize inN s c o = y at *
  go_enter Tryz.func75, Tryz.ntmps75
  go_wp2_with (first
    | (go_at_call 74; ((with_reducible refine C1.out.mono ?_); rintro e w1 ⟨rfl, hb1⟩))
    | (go_at_call 90; ((with_reducible refine (C2 _).out.mono ?_); rintro e w2 ⟨rfl, rfl⟩)))
  go_ret
  exact ⟨rfl, below_step (below_alloc _ _) hb1⟩

end Go.Proofs.YtdacjnmfmhkpiaaGreatDoor

/- Walks: slices.Clone, slices.Equal, Clone, Equal; the reference's Copy and Equal. -/
namespace Go.Proofs.YtdacjnmfmhkpiaaGreatDoor
open Go.ChangeShapes Go.WideShapes Go.ChangeAt Go.RowKit

set_option maxRecDepth 100000 in
/-- append of a slice that reads as a list to a slice of the call's own. -/
theorem wpList_append_ints {ops : Array Oper} {rest : List Oper} {o : Oper} {a : Act} {w : World} {Q : Exit → Act → World → Prop} (hgd : o.guard = none) (s x : Operand)
    (ho : o.op = .call { callee := .builtin .append, args := #[s, x], argTypes := #[22, 22] }) (B : Nat) (v : Value) (xs : List Int) (hs : a.eval s = v) (hown : OI w B v xs)
    (ad : Addr) (n c : Nat) (ys : List Int) (hx : a.eval x = .slice (some ad) n c) (hr : RI w (some ad) n ys) (hlen : xs.length + n ≤ 1000000000) (hbase : B ≤ w.heap.size)
    (h : ∀ v' w', OI w' B v' (xs ++ ys) → w.grownBy w' v.ownBlock → (v' = .slice none 0 0 → v = .slice none 0 0) → wpList Tryz.prog ops Q rest (a.put o.dst v') w') : wpList Tryz.prog ops Q (o :: rest) a w := by
  obtain ⟨i0, hi, hz0, hz1, hz2⟩ := info_parts Tryz.infoInt
  have hl := hr.1
  refine wpList_append_own w hgd s x 22 ho B 3 i0 (.int .i64 0) 1 8 Tryz.underlying22 hi hz0 hz1 hz2 rfl (by decide) v xs.length (ints xs) hs hown ad n c (ints ys) hx (by simp [ints, hl]) ?_ ?_ (by unfold maxLen; omega) (by omega) hbase ?_
  · intro j u hj
    have hjn : j < ys.length := by
      have := (List.getElem?_eq_some_iff.1 hj).1
      simpa [ints] using this
    obtain ⟨b, off, e, _, hc⟩ := hr.2 (by omega)
    obtain rfl := Option.some.inj e
    rw [add_plain, hc j (by omega)]
    simp [ints, hjn] at hj
    rw [← hj]
    simp [List.getD, hjn]
  · intro u hu
    simp [ints] at hu
    obtain ⟨z, _, rfl⟩ := hu
    rfl
  · intro v' w' h1 h2 h3
    refine h v' w' ?_ h2 (fun e => (h3.1 e).1)
    unfold OI
    simpa [ints, hl] using h1

def ClPost (w : World) (n : Nat) (xs : List Int) (e : Ending) (w' : World) : Prop := ∃ A c, e = .returned (.slice A n c) ∧ OI w' w.heap.size (.slice A n c) xs ∧ Below w.heap.size w w'
theorem OI.empty (w : World) (B : Nat) (hB : B ≤ w.heap.size) : OI (w.alloc (.cells #[] 3)) B (.slice (some ⟨w.heap.size, 0, none⟩) 0 0) [] :=
  World.ownsRow_lit w #[] 0 hB (by simp [maxLen]) rfl

set_option maxHeartbeats 800000 in
theorem sclone_any (A : Option Addr) (n c : Nat) (xs : List Int) (w : World) (hr : RI w A n xs) (hn : n ≤ 1000000) :
    Calls Tryz.prog 34 #[.slice A n c] w (ClPost w n xs) := by
  cases A with
  | none =>
    obtain rfl : n = 0 := by
      rcases Nat.eq_zero_or_pos n with h0 | h0
      · exact h0
      · obtain ⟨b, off, e, _⟩ := hr.2 h0
        cases e
    have hx : xs = [] := List.length_eq_zero_iff.1 hr.1
    subst hx
    clear hr
    have hnl := fun (W : World) => Lib.run_eql_slice_nil (P := Tryz.prog) W 22 3 none 0 c 0 0 Tryz.underlying22
    go_enter Tryz.func34, Tryz.ntmps34
    go_wp2
    go_ret
    exact ⟨_, _, rfl, OI.nil _ _, Below.refl _ _⟩
  | some ad =>
    have h0 := OI.empty w w.heap.size (Nat.le_refl _)
    have hb0 := below_alloc w (.cells #[] 3)
    have hr1 := hr.alloc (.cells #[] 3)
    have hl := hr.1
    have HL := Lib.hid hl
    have hnl := fun (W : World) => Lib.run_eql_slice_nil (P := Tryz.prog) W 22 3 (some ad) n c 0 0 Tryz.underlying22
    clear hr hl
    go_enter Tryz.func34, Tryz.ntmps34
    go_wp2_with (at_builtin
                 refine wpList_append_ints rfl (.tmp 5) (.tmp 6) rfl w.heap.size (.slice (some ⟨w.heap.size, 0, none⟩) 0 0) [] rfl h0 ad n c xs rfl hr1 (by simp; omega) hb0.size ?_
                 intro v2 w2 hown2 hg2 hnn)
    have hb2 : Below w.heap.size w w2 := hb0.grown hg2 hb0.size (fun k hk => by simp [Value.ownBlock] at hk; omega)
    have hform : ∃ A' c', v2 = .slice A' n c' := by
      rcases hown2.form with ⟨e, he⟩ | ⟨g, cap, e, _⟩
      · have := hnn e; cases this
      · exact ⟨some ⟨g, 0, none⟩, cap, by rw [e]; simp [HL.out]⟩
    obtain ⟨A', c', rfl⟩ := hform
    go_ret
    exact ⟨A', c', rfl, by simpa using hown2, hb2⟩

set_option maxHeartbeats 800000 in
theorem sequal_r (r : Bool) (A B : Option Addr) (n c m d : Nat) (xs ys : List Int) (w : World) (hx : RI w A n xs) (hy : RI w B m ys) (hn : n ≤ 1000000000000000) (hm : m ≤ 1000000000000000) (hr : r = decide (xs = ys)) :
    Calls Tryz.prog 51 #[.slice A n c, .slice B m d] w fun e w' => e = .returned (.bool r) ∧ Below w.heap.size w w' := by
  have hlx := hx.1
  have hly := hy.1
  by_cases hnm : n = m
  · subst hnm
    have HLX := Lib.hid hlx
    have HLY := Lib.hid hly
    have HR := Lib.hid hr
    have HE : Hid (∀ j, j < 0 → xs.getD j 0 = ys.getD j 0) := fun j hj => absurd hj (by omega)
    clear hlx hly hr
    go_enter Tryz.func51, Tryz.ntmps51
    go_wp2
    go_loopw [5, 13] (fun _ i wr => ∃ k : Nat, k ≤ n ∧ i = .int .i64 k ∧ Below w.heap.size w wr ∧ Hid (∀ j, j < k → xs.getD j 0 = ys.getD j 0)) (fun _ i _ => n - (intOf i).toNat)
    case atStart => exact ⟨0, by omega, rfl, Below.refl _ _, HE⟩
    case round =>
      obtain ⟨k, hk, rfl, hbr, hall⟩ := hrel
      by_cases hlt : k < n
      · obtain ⟨b, off, rfl, hb, hc⟩ := (hx.keep hbr).2 (by omega)
        obtain ⟨b', off', rfl, hb', hc'⟩ := (hy.keep hbr).2 (by omega)
        have h1 := hc k hlt
        have h2 := hc' k hlt
        have hk0 : (0 : Int) ≤ (k : Int) := Int.natCast_nonneg _
        have hk1 : (k : Int) < (n : Int) := by omega
        by_cases he : xs.getD k 0 = ys.getD k 0
        · have hall' : Hid (∀ j, j < k + 1 → xs.getD j 0 = ys.getD j 0) := fun j hj => by
            by_cases e : j = k
            · subst e; exact he
            · exact hall.out j (by omega)
          rw [← he] at h2
          clear hx hy hc hc' he
          generalize xs.getD k 0 = x at *
          go_wp2
          go_quiet (fail)
          go_wp2
          go_roundw
          case rel => exact ⟨k + 1, by omega, by go_num, below_drewN hbr _, hall'⟩
          case measure => simp [intOf]; omega
        · have hne : (xs.getD k 0 != ys.getD k 0) = true := by simp only [bne_iff_ne, ne_eq]; exact he
          have hrf : r = false := by
            rw [HR.out, decide_eq_false_iff_not]
            intro e; exact he (by rw [e])
          subst hrf
          clear hx hy hc hc' he HR
          generalize xs.getD k 0 = x at *
          generalize ys.getD k 0 = y at *
          go_wp2
          go_quiet (fail)
          go_wp2
          go_ret
          exact ⟨rfl, below_drewN hbr _⟩
      · obtain rfl : k = n := by omega
        have hrt : r = true := by
          rw [HR.out, decide_eq_true_eq]
          exact eq_of_getD (by rw [HLX.out, HLY.out]) (fun j hj => hall.out j (by rw [← HLX.out]; exact hj))
        subst hrt
        clear hx hy HR
        go_wp2
        go_ret
        exact ⟨rfl, hbr⟩
  · have hrf : r = false := by
      rw [hr, decide_eq_false_iff_not]
      intro e; rw [e] at hlx; omega
    subst hrf
    have hne : ((n : Int) != (m : Int)) = true := by simp only [bne_iff_ne, ne_eq]; omega
    clear hx hy hlx hly hr hnm
    go_enter Tryz.func51, Tryz.ntmps51
    go_wp2
    go_ret
    exact ⟨rfl, Below.refl _ _⟩

/-- What Clone returns: a diagram whose slices are new. -/
def ClonePost (w : World) (ns nm : Nat) (lp : Int) (signs mate : List Int) (e : Ending) (w' : World) : Prop :=
  ∃ A cs B cm, e = .returned (dval A ns cs B nm cm lp) ∧ OI w' w.heap.size (.slice A ns cs) signs ∧ OI w' w.heap.size (.slice B nm cm) mate ∧
    ((Value.slice A ns cs).ownBlock = none ∨ (Value.slice A ns cs).ownBlock ≠ (Value.slice B nm cm).ownBlock) ∧ Below w.heap.size w w'

theorem OI.block_ne {w w' : World} {B : Nat} {A A' : Option Addr} {n c n' c' : Nat} {xs ys : List Int} (h : OI w B (.slice A n c) xs) (k : OI w' w.heap.size (.slice A' n' c') ys) :
    (Value.slice A n c).ownBlock = none ∨ (Value.slice A n c).ownBlock ≠ (Value.slice A' n' c').ownBlock := by
  cases hg : (Value.slice A n c).ownBlock with
  | none => exact .inl rfl
  | some g =>
    refine .inr fun e => ?_
    have h1 := (World.ownsRow.lt h g hg).2
    have h2 := (World.ownsRow.lt k g e.symm).1
    omega

abbrev set3 (W : World) (g : Nat) (a b c : Value) : World := ((W.setCell ⟨g, 0, none⟩ a).setCell ⟨g, 1, none⟩ b).setCell ⟨g, 2, none⟩ c
theorem set3_far (W : World) (g : Nat) (a b c : Value) {h : Nat} (hne : g ≠ h) (i : Nat) : (set3 W g a b c).cell? ⟨h, i, none⟩ = W.cell? ⟨h, i, none⟩ := by
  unfold set3
  rw [World.cell?_setCell_other _ _ _ _ (by simp), World.cell?_setCell_other _ _ _ _ (by simp), World.cell?_setCell_other _ _ _ _ (by simp)]
theorem set3_cells (W : World) (g : Nat) (a b c : Value) {u0 u1 u2 : Value} (q0 : W.cell? ⟨g, 0, none⟩ = some u0) (q1 : W.cell? ⟨g, 1, none⟩ = some u1) (q2 : W.cell? ⟨g, 2, none⟩ = some u2) :
    (set3 W g a b c).cell? ⟨g, 0, none⟩ = some a ∧ (set3 W g a b c).cell? ⟨g, 1, none⟩ = some b ∧ (set3 W g a b c).cell? ⟨g, 2, none⟩ = some c := by
  unfold set3
  refine ⟨?_, ?_, ?_⟩
  · rw [World.cell?_setCell_other _ _ _ _ (by simp), World.cell?_setCell_other _ _ _ _ (by simp), World.cell?_setCell_same _ _ _ q0]
  · have h1 : (W.setCell ⟨g, 0, none⟩ a).cell? ⟨g, 1, none⟩ = some u1 := by rw [World.cell?_setCell_other _ _ _ _ (by simp)]; exact q1
    rw [World.cell?_setCell_other _ _ _ _ (by simp), World.cell?_setCell_same _ _ _ h1]
  · have h2 : ((W.setCell ⟨g, 0, none⟩ a).setCell ⟨g, 1, none⟩ b).cell? ⟨g, 2, none⟩ = some u2 := by rw [World.cell?_setCell_other _ _ _ _ (by simp), World.cell?_setCell_other _ _ _ _ (by simp)]; exact q2
    rw [World.cell?_setCell_same _ _ _ h2]
theorem set3_below {B : Nat} {a W : World} (h : Below B a W) {g : Nat} (hg : B ≤ g) (x y z : Value) : Below B a (set3 W g x y z) := below_set (below_set (below_set h hg _) hg _) hg _
theorem OI.set3 {W : World} {B : Nat} {v : Value} {xs : List Int} (h : OI W B v xs) {g : Nat} (hg : v.ownBlock ≠ some g) (x y z : Value) : OI (set3 W g x y z) B v xs := ((h.far (p := ⟨g, 0, none⟩) hg _).far (p := ⟨g, 1, none⟩) hg _).far (p := ⟨g, 2, none⟩) hg _

set_option maxHeartbeats 3200000 in
theorem clone_any (A B : Option Addr) (ns cs nm cm : Nat) (lp : Int) (signs mate : List Int) (w : World) (hs : RI w A ns signs) (hm : RI w B nm mate) (hns : ns ≤ 1000) (hnm : nm ≤ 1000) :
    Calls Tryz.prog 62 #[dval A ns cs B nm cm lp] w (ClonePost w ns nm lp signs mate) := by
  have hd := (DB.new w A ns cs B nm cm lp).keep (below_alloc _ (.cells #[.slice none 0 0, .slice none 0 0, .int .i64 0] 24))
  have hb0 := below_step (below_alloc w (dbox A ns cs B nm cm lp)) (below_alloc _ (.cells #[.slice none 0 0, .slice none 0 0, .int .i64 0] 24))
  have hr := DB.new (w.alloc (dbox A ns cs B nm cm lp)) none 0 0 none 0 0 0
  have hrf : ∀ i, ((w.alloc (dbox A ns cs B nm cm lp)).alloc (.cells #[.slice none 0 0, .slice none 0 0, .int .i64 0] 24)).frozen? ⟨w.heap.size + 1, i, none⟩ = false := fun i => World.frozen?_alloc_at _ _ _ _ (by simp)
  have hsz : ((w.alloc (dbox A ns cs B nm cm lp)).alloc (.cells #[.slice none 0 0, .slice none 0 0, .int .i64 0] 24)).heap.size = w.heap.size + 2 := by simp
  have hsz1 : (w.alloc (dbox A ns cs B nm cm lp)).heap.size = w.heap.size + 1 := by simp
  rw [hsz1] at hr
  go_enter Tryz.func62, Tryz.ntmps62
  go_wp2
  generalize (w.alloc (dbox A ns cs B nm cm lp)).alloc (.cells #[.slice none 0 0, .slice none 0 0, .int .i64 0] 24) = wA at hd hb0 hr hrf hsz ⊢
  obtain ⟨g1, hg1⟩ : ∃ g1, w.heap.size + 1 = g1 := ⟨_, rfl⟩
  rw [hg1] at hr hrf ⊢
  have hlt1 : w.heap.size < g1 := by omega
  have hltA : g1 < wA.heap.size := by omega
  clear hg1 hsz hsz1
  obtain ⟨d0, d1, d2, dlt⟩ := hd
  obtain ⟨r0, r1, r2, rlt⟩ := hr
  have hs1 := hs.keep hb0
  have hm1 := hm.keep hb0
  have HRF := Lib.hid hrf
  have CA : ∀ W : World, Below wA.heap.size wA W → Hid (Calls Tryz.prog 34 #[.slice A ns cs] W (ClPost W ns signs)) := fun W hb => sclone_any A ns cs signs W (hs1.keep hb) (by omega)
  have CB : ∀ W : World, Below wA.heap.size wA W → Hid (Calls Tryz.prog 34 #[.slice B nm cm] W (ClPost W nm mate)) := fun W hb => sclone_any B nm cm mate W (hm1.keep hb) (by omega)
  have hbD : Below wA.heap.size wA wA.drew := (Below.refl _ _).drew
  clear hs hm hs1 hm1 hrf
  go_region_held3 (fun w' => w'.cell? ⟨w.heap.size, 0, none⟩ = some (.slice A ns cs) ∧ w'.cell? ⟨w.heap.size, 1, none⟩ = some (.slice B nm cm) ∧ w'.cell? ⟨w.heap.size, 2, none⟩ = some (.int .i64 lp))
    (first
      | go_keep
      | exact ⟨(set3_far w3 g1 _ _ _ (Nat.ne_of_gt hlt1) 0).trans ((hbC.cell (p := ⟨w.heap.size, 0, none⟩) dlt).trans d0), (set3_far w3 g1 _ _ _ (Nat.ne_of_gt hlt1) 1).trans ((hbC.cell (p := ⟨w.heap.size, 1, none⟩) dlt).trans d1), (set3_far w3 g1 _ _ _ (Nat.ne_of_gt hlt1) 2).trans ((hbC.cell (p := ⟨w.heap.size, 2, none⟩) dlt).trans d2)⟩
      | exact ⟨(hbC.cell (p := ⟨w.heap.size, 0, none⟩) dlt).trans d0, (hbC.cell (p := ⟨w.heap.size, 1, none⟩) dlt).trans d1, (hbC.cell (p := ⟨w.heap.size, 2, none⟩) dlt).trans d2⟩
      | exact ⟨(hbB.cell (p := ⟨w.heap.size, 0, none⟩) dlt).trans d0, (hbB.cell (p := ⟨w.heap.size, 1, none⟩) dlt).trans d1, (hbB.cell (p := ⟨w.heap.size, 2, none⟩) dlt).trans d2⟩)
    (first
      | (go_at_call 34; ((with_reducible refine (CA _ hbD).out.mono ?_); rintro e w2 ⟨A1, c1, rfl, ho1, hb1⟩; have hbB := below_step hbD hb1))
      | (go_at_call 34; ((with_reducible refine (CB _ hbB).out.mono ?_); rintro e w3 ⟨B1, m1, rfl, ho2, hb2⟩; have hbC := below_step hbB hb2; have q0 := (hbC.cell (p := ⟨g1, 0, none⟩) rlt).trans r0; have q1 := (hbC.cell (p := ⟨g1, 1, none⟩) rlt).trans r1; have q2 := (hbC.cell (p := ⟨g1, 2, none⟩) rlt).trans r2; have f0 := (hbC.frozen (p := ⟨g1, 0, none⟩) rlt).trans (HRF.out 0); have f1 := (hbC.frozen (p := ⟨g1, 1, none⟩) rlt).trans (HRF.out 1); have f2 := (hbC.frozen (p := ⟨g1, 2, none⟩) rlt).trans (HRF.out 2))))
  obtain ⟨k0, k1, k2⟩ := set3_cells w3 g1 (.slice A1 ns c1) (.slice B1 nm m1) (.int .i64 lp) q0 q1 q2
  have n1 : (Value.slice A1 ns c1).ownBlock ≠ some g1 := fun e => by have := (World.ownsRow.lt ho1 g1 e).1; have := hbD.size; omega
  have n2 : (Value.slice B1 nm m1).ownBlock ≠ some g1 := fun e => by have := (World.ownsRow.lt ho2 g1 e).1; have := hbB.size; omega
  have o1 := ((ho1.keep hb2).set3 n1 (.slice A1 ns c1) (.slice B1 nm m1) (.int .i64 lp)).mono (B' := w.heap.size) (Nat.le_trans hb0.size hbD.size)
  have o2 := (ho2.set3 n2 (.slice A1 ns c1) (.slice B1 nm m1) (.int .i64 lp)).mono (B' := w.heap.size) (Nat.le_trans hb0.size hbB.size)
  have hne := ho1.block_ne ho2
  have hbF := set3_below (hb0.trans (hbC.mono hb0.size)) (Nat.le_of_lt hlt1) (.slice A1 ns c1) (.slice B1 nm m1) (.int .i64 lp)
  have HF := Lib.hid (show ClonePost w ns nm lp signs mate (.returned (dval A1 ns c1 B1 nm m1 lp)) (set3 w3 g1 (.slice A1 ns c1) (.slice B1 nm m1) (.int .i64 lp)) from ⟨A1, c1, B1, m1, rfl, o1, o2, hne, hbF⟩)
  clear o1 o2 hne hbF n1 n2 ho1 ho2
  go_wp2
  exact bodyPost_ret (v := dval A1 ns c1 B1 nm m1 lp) (by simp [results, Tryz.results62, go_sem, k0, k1, k2]) rfl HF.out

end Go.Proofs.YtdacjnmfmhkpiaaGreatDoor
