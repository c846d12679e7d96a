import Derived.Test.YtkfjledhnakfoaaA04
import Derived.Test.YtkfjledhnakfoaaA03
import Derived.Lib.AppendZerosOnto
import Derived.Laws.AppendOwn
import Derived.ProofKit
/- Walks: slices.Grow of a nil slice, slices.Concat of rows that are not empty. -/
namespace Go.Proofs.Ytkfjledhnakfoaa
open Go.RowKit

set_option maxHeartbeats 2000000 in
set_option maxRecDepth 100000 in
theorem grow_any (n : Nat) (hn : n ≤ 1000000) (w : World) : Calls Try.prog 107 #[.slice none 0 0, .int .i64 (n : Nat)] w fun e w' => ∃ v, e = .returned v ∧ OI w' w.heap.size v [] ∧ Below w.heap.size w w' := by
  have hn0 : (0 : Int) ≤ (n : Int) := Int.natCast_nonneg _
  by_cases hz : n = 0
  · subst hz
    go_enter Try.func107, Try.ntmps107
    go_wp2
    go_ret
    exact ⟨_, rfl, OI.nil _ _, Below.refl _ _⟩
  · obtain ⟨i0, hi, hz0, hz1, hz2⟩ := info_parts Try.infoInt
    have hn1 : 0 < (n : Int) := by omega
    have hrz : ∀ ty, (Builtin.append_ #[22, 3] ty #[.slice none 0 0, .int .i64 (n : Nat)]).run Try.prog w =
        .ok (.slice (some ⟨w.heap.size, 0, none⟩) n (grownCap w n 0 3)) (w.drew.alloc (.cells (Builtin.zeroCells #[.int .i64 0] n ++ Builtin.zeroCells #[.int .i64 0] (grownCap w n 0 3 - n)) 3)) := fun ty => by
      have h := Lib.run_append_grow_zeros w 22 3 ty 3 i0 (.int .i64 0) .i64 .i64 Try.underlying22 Try.underlying3 hi hz0 none 0 0 [] (run_firstCells_none w.drew i0.size 0 0 0) n (by omega) (by omega) (by omega) (by omega) (by rw [hz2]; omega)
        (by rw [hz2, Nat.zero_add]; exact growslice_fits (by omega) (by omega))
      simp only [Nat.zero_add, Value.cells] at h
      simpa using h
    have hGn : n ≤ grownCap w n 0 3 := grownCap_ge w _ _ _
    have hGm : grownCap w n 0 3 ≤ maxLen := grownCap_le_maxLen w n 0 3 (by unfold maxLen; omega)
    obtain ⟨G, hG⟩ : ∃ G, grownCap w n 0 3 = G := ⟨_, rfl⟩
    rw [hG] at hrz hGn hGm
    have HO : Hid (OI (w.drew.alloc (.cells (Builtin.zeroCells #[.int .i64 0] n ++ Builtin.zeroCells #[.int .i64 0] (G - n)) 3)) w.heap.size (.slice (some ⟨w.heap.size, 0, none⟩) 0 G) []) := Lib.hid (World.ownsRow_made w.drew _ G (Nat.le_refl _) hGm (by simp only [Array.size_append, size_zeroCells]; show n * 1 + (G - n) * 1 = G * 1; omega))
    have HB : Hid (Below w.heap.size w (w.drew.alloc (.cells (Builtin.zeroCells #[.int .i64 0] n ++ Builtin.zeroCells #[.int .i64 0] (G - n)) 3))) := Lib.hid ((Below.refl w.heap.size w).drew.alloc (by simp) _)
    have hG63 : G ≤ 9223372036854775807 := by unfold maxLen at hGm; omega
    clear hG hGm hi hz
    go_enter Try.func107, Try.ntmps107
    go_wp2_with (at_builtin; refine Lib.wpList_append_run _ rfl _ _ _ _ rfl _ _ rfl rfl _ _ (hrz _) ?_)
    go_ret
    exact ⟨_, rfl, HO.out, HB.out⟩

/-- The lists of the first k rows, one behind the other. -/
def flT (xss : List (List Int)) (k : Nat) : List Int := (xss.take k).flatten
theorem flT_succ (xss : List (List Int)) (k : Nat) (h : k < xss.length) : flT xss (k + 1) = flT xss k ++ xss.getD k [] := by
  unfold flT
  rw [List.take_add_one, List.flatten_append]
  simp [List.getD, h]
theorem flT_all (xss : List (List Int)) : flT xss xss.length = xss.flatten := by unfold flT; rw [List.take_length]
theorem flT_le (xss : List (List Int)) (k : Nat) : (flT xss k).length ≤ xss.flatten.length := by
  have e := congrArg List.length (congrArg List.flatten (List.take_append_drop k xss))
  rw [List.flatten_append, List.length_append] at e
  unfold flT; omega

/-- Row k of A lies in memory, and is no nil slice. -/
def RowsAt (w : World) (A : Option Addr) (n : Nat) (xss : List (List Int)) : Prop := ∀ k, k < n → ∃ b o c', A = some ⟨b, o, none⟩ ∧ b < w.heap.size ∧ ∃ b' o', w.cell? ⟨b, o + k, none⟩ = some (.slice (some ⟨b', o', none⟩) (xss.getD k []).length c') ∧ b' < w.heap.size ∧ ∀ j, j < (xss.getD k []).length → w.cell? ⟨b', o' + j, none⟩ = some (.int .i64 ((xss.getD k []).getD j 0))
set_option maxHeartbeats 3200000 in
set_option maxRecDepth 100000 in
theorem concat_rows (A : Option Addr) (n c : Nat) (xss : List (List Int)) (w : World) (hxl : xss.length = n) (hn : n ≤ 1000) (hl : xss.flatten.length ≤ 1000) (hrow : RowsAt w A n xss) :
    Calls Try.prog 67 #[.slice A n c] w fun e w' => ∃ v, e = .returned v ∧ OI w' w.heap.size v xss.flatten ∧ Below w.heap.size w w' := by
  have HXL := Lib.hid hxl
  have HF := Lib.hid (flT_all xss)
  have hle : ∀ k, (flT xss k).length ≤ 1000 := fun k => Nat.le_trans (flT_le xss k) hl
  have HLE := Lib.hid hle
  have HROW := Lib.hid hrow
  clear hl hxl hle hrow
  go_enter Try.func67, Try.ntmps67
  go_wp2
  go_loopw [3, 5, 11] (fun z _ i wr => ∃ k : Nat, k ≤ n ∧ i = .int .i64 k ∧ wr = w ∧ z = .int .i64 (flT xss k).length) (fun _ _ i _ => n - (intOf i).toNat)
  case atStart => exact ⟨0, by omega, rfl, rfl, rfl⟩
  case round =>
    obtain ⟨k, hk, rfl, hw, rfl⟩ := hrel
    subst hw
    have hk0 : (0 : Int) ≤ (k : Int) := Int.natCast_nonneg _
    by_cases hlt : k < n
    · obtain ⟨b, o, c', rfl, hb, b', o', hcel, hb', hc'⟩ := HROW.out k hlt
      have hs := flT_succ xss k (by rw [HXL.out]; exact hlt)
      have hle1 := HLE.out (k + 1)
      have hlen : (flT xss (k + 1)).length = (flT xss k).length + (xss.getD k []).length := by rw [hs, List.length_append]
      obtain ⟨q, hq⟩ : ∃ q, (flT xss k).length = q := ⟨_, rfl⟩
      obtain ⟨r, hr⟩ : ∃ r, (xss.getD k []).length = r := ⟨_, rfl⟩
      rw [hq, hr] at hlen
      rw [hr] at hcel
      simp only [hq]
      have HLEN := Lib.hid hlen
      have hqr : q + r ≤ 1000 := by omega
      have hq0 : (0 : Int) ≤ (q : Int) := Int.natCast_nonneg _
      have hr0 : (0 : Int) ≤ (r : Int) := Int.natCast_nonneg _
      have hk1 : (k : Int) < (n : Int) := by omega
      clear hs hlen hq hr hc' hle1
      go_wp2
      go_roundw
      case rel => exact ⟨k + 1, by omega, by go_num, trivial, by rw [HLEN.out]; go_num⟩
      case measure => simp [intOf]; omega
    · obtain rfl : n = k := by omega
      obtain ⟨wO, hwO⟩ : ∃ wO : World, wO = wr := ⟨_, rfl⟩
      subst hwO
      have hle1 := HLE.out n
      obtain ⟨q, hq⟩ : ∃ q, (flT xss n).length = q := ⟨_, rfl⟩
      rw [hq] at hle1
      simp only [hq]
      have CG := Lib.hid (grow_any q (by omega) wO)
      clear hq hlt
      go_wp2_with (go_at_call 107; ((with_reducible refine CG.out.mono ?_); rintro e w1 ⟨v1, rfl, ho1, hb1⟩))
      go_loopw [6, 8, 27] (fun v _ i wr => ∃ k : Nat, k ≤ n ∧ i = .int .i64 k ∧ Below wO.heap.size wO wr ∧ OI wr wO.heap.size v (flT xss k)) (fun _ _ i _ => n - (intOf i).toNat)
      case atStart => exact ⟨0, by omega, rfl, hb1, ho1⟩
      case round =>
        obtain ⟨k, hk, rfl, hbx, hox⟩ := hrel
        have hk0 : (0 : Int) ≤ (k : Int) := Int.natCast_nonneg _
        by_cases hlt : k < n
        · obtain ⟨b, o, c', rfl, hb, b', o', hcel, hb', hc'⟩ := HROW.out k hlt
          have hs := flT_succ xss k (by rw [HXL.out]; exact hlt)
          have hle1 := HLE.out (k + 1)
          rw [hs, List.length_append] at hle1
          have hcelx := (hbx.cell (p := ⟨b, o + k, none⟩) hb).trans hcel
          have hcx : ∀ j, j < (xss.getD k []).length → wr.cell? ⟨b', o' + j, none⟩ = some (.int .i64 ((xss.getD k []).getD j 0)) := fun j hj => (hbx.cell (p := ⟨b', o' + j, none⟩) hb').trans (hc' j hj)
          obtain ⟨row, hrow⟩ : ∃ row, xss.getD k [] = row := ⟨_, rfl⟩
          rw [hrow] at hcelx hcx hs hle1
          have HCX := Lib.hid hcx
          have HS := Lib.hid hs
          have HOX := Lib.hid hox
          obtain ⟨i0, hi, hz0, hz1, hz2⟩ := info_parts Try.infoInt
          have hk1 : (k : Int) < (n : Int) := by omega
          obtain ⟨cur, hcur⟩ : ∃ cur, flT xss k = cur := ⟨_, rfl⟩
          rw [hcur] at hle1
          have HCUR := Lib.hid hcur
          have HOC : Hid (OI wr wO.heap.size _ cur) := Lib.hid (hcur ▸ hox)
          obtain ⟨rl, hrl⟩ : ∃ rl, row.length = rl := ⟨_, rfl⟩
          rw [hrl] at hcelx hle1
          have HRL := Lib.hid hrl
          clear hs hcx hox hc' hcel hrow hcur hrl
          go_wp2_with (at_builtin; refine wpList_append_own _ rfl (.tmp 31) (.tmp 32) 22 rfl wO.heap.size 3 i0 (.int .i64 0) 1 8 Try.underlying22 hi hz0 hz1 hz2 rfl (by decide) _ _ (ints cur) rfl HOC.out ⟨b', o', none⟩ rl c' (ints row) rfl (by simp [HRL.out]) ?c1 ?c2 ?c3 ?c4 ?c5 ?_)
          case c1 =>
            intro j u hj
            have hjl : j < row.length := by
              have := (List.getElem?_eq_some_iff.1 hj).1
              simpa using this
            have h1 := HCX.out j hjl
            have ha : (⟨b', o', none⟩ : Addr).add j = ⟨b', o' + j, none⟩ := by unfold Addr.add; split <;> simp_all
            rw [ha, h1]
            simp [hjl] at hj
            simp [List.getD, hjl, hj]
          case c2 => intro u hu; obtain ⟨x, _, rfl⟩ := List.mem_map.1 hu; rfl
          case c3 => unfold maxLen; omega
          case c4 => omega
          case c5 => exact hbx.size
          intro v2 w2 ho2 hg2 _
          have hb2 : Below wO.heap.size wO w2 := hbx.grown hg2 hbx.size (fun q hq => (World.ownsRow.lt HOC.out q hq).1)
          have HO2 : Hid (OI w2 wO.heap.size v2 (flT xss (k + 1))) := Lib.hid (by
            rw [HS.out, HCUR.out]
            unfold OI
            have e1 : (cur ++ row).length = cur.length + rl := by rw [List.length_append, HRL.out]
            have e2 : ints (cur ++ row) = ints cur ++ ints row := by simp [ints]
            rw [e1, e2]; exact ho2)
          clear ho2 hg2
          go_wp2
          go_roundw
          case rel => exact ⟨k + 1, by omega, by go_num, hb2, HO2.out⟩
          case measure => simp [intOf]; omega
        · obtain rfl : n = k := by omega
          have HOX := Lib.hid hox
          clear hox
          go_wp2
          go_ret
          exact ⟨_, rfl, by have h1 := HOX.out; rw [← HXL.out, HF.out] at h1; exact h1, hbx⟩

theorem concat_any (A : Option Addr) (n c : Nat) (xss : List (List Int)) (w : World) (hA : RO w A n xss) (hn : n ≤ 1000) (hl : xss.flatten.length ≤ 1000) (hne : ∀ j, j < n → 0 < (xss.getD j []).length) :
    Calls Try.prog 67 #[.slice A n c] w fun e w' => ∃ v, e = .returned v ∧ OI w' w.heap.size v xss.flatten ∧ Below w.heap.size w w' :=
  concat_rows A n c xss w hA.1 hn hl fun k hk => by
    obtain ⟨b, o, e, hb, hc⟩ := hA.2 (by omega)
    obtain ⟨A', n', c', h1, h2⟩ := hc k hk
    obtain rfl := h2.1
    obtain ⟨b', o', e', hb', hc'⟩ := h2.2 (hne k hk)
    exact ⟨b, o, c', e, hb, b', o', by rw [h1, e'], hb', hc'⟩

end Go.Proofs.Ytkfjledhnakfoaa

/- Walk: slices.Concat of rows, the empty among them. -/
namespace Go.Proofs.Ytkfjledhnakfoaa
open Go.RowKit

/-- Nothing is appended to a slice of ints. -/
theorem run_append_zero {w : World} {B : Nat} {v : Value} {xs : List Int} (h : OI w B v xs) (A : Option Addr) (c : Nat) (ty : TypeId) :
    (Builtin.append_ #[22, 22] ty #[v, .slice A 0 c]).run Try.prog w = .ok v w := by
  obtain ⟨i0, hi, hz0, hz1, hz2⟩ := info_parts Try.infoInt
  have ht := run_underlying (w := w) Try.underlying22
  rcases h.2 with ⟨rfl, _⟩ | ⟨g, cap, cur, rfl, _, _, h6, _⟩
  · cases A <;> simp [Builtin.append_, ht, sizeOf, typeInfo, hi, Builtin.lenOf, Builtin.firstCells, loadCells, loadCellsFrom]
  · cases A <;> simp [Builtin.append_, ht, sizeOf, typeInfo, hi, Builtin.lenOf, Builtin.firstCells, loadCells, loadCellsFrom, h6, storeCells]

/-- Row k of A lies in memory. -/
def RowsRI (w : World) (A : Option Addr) (n : Nat) (xss : List (List Int)) : Prop := ∀ k, k < n → ∃ b o A' c', A = some ⟨b, o, none⟩ ∧ b < w.heap.size ∧ w.cell? ⟨b, o + k, none⟩ = some (.slice A' (xss.getD k []).length c') ∧ RI w A' (xss.getD k []).length (xss.getD k [])
set_option maxHeartbeats 3200000 in
set_option maxRecDepth 100000 in
theorem concat_ri (A : Option Addr) (n c : Nat) (xss : List (List Int)) (w : World) (hxl : xss.length = n) (hn : n ≤ 1000) (hl : xss.flatten.length ≤ 1000) (hrow : RowsRI w A n xss) :
    Calls Try.prog 67 #[.slice A n c] w fun e w' => ∃ v, e = .returned v ∧ OI w' w.heap.size v xss.flatten ∧ Below w.heap.size w w' := by
  have HXL := Lib.hid hxl
  have HF := Lib.hid (flT_all xss)
  have hle : ∀ k, (flT xss k).length ≤ 1000 := fun k => Nat.le_trans (flT_le xss k) hl
  have HLE := Lib.hid hle
  have HROW := Lib.hid hrow
  clear hl hxl hle hrow
  go_enter Try.func67, Try.ntmps67
  go_wp2
  go_loopw [3, 5, 11] (fun z _ i wr => ∃ k : Nat, k ≤ n ∧ i = .int .i64 k ∧ wr = w ∧ z = .int .i64 (flT xss k).length) (fun _ _ i _ => n - (intOf i).toNat)
  case atStart => exact ⟨0, by omega, rfl, rfl, rfl⟩
  case round =>
    obtain ⟨k, hk, rfl, hw, rfl⟩ := hrel
    subst hw
    have hk0 : (0 : Int) ≤ (k : Int) := Int.natCast_nonneg _
    by_cases hlt : k < n
    · obtain ⟨b, o, A', c', rfl, hb, hcel, _⟩ := HROW.out k hlt
      have hs := flT_succ xss k (by rw [HXL.out]; exact hlt)
      have hle1 := HLE.out (k + 1)
      have hlen : (flT xss (k + 1)).length = (flT xss k).length + (xss.getD k []).length := by rw [hs, List.length_append]
      obtain ⟨q, hq⟩ : ∃ q, (flT xss k).length = q := ⟨_, rfl⟩
      obtain ⟨r, hr⟩ : ∃ r, (xss.getD k []).length = r := ⟨_, rfl⟩
      rw [hq, hr] at hlen
      rw [hr] at hcel
      simp only [hq]
      have HLEN := Lib.hid hlen
      have hqr : q + r ≤ 1000 := by omega
      have hq0 : (0 : Int) ≤ (q : Int) := Int.natCast_nonneg _
      have hr0 : (0 : Int) ≤ (r : Int) := Int.natCast_nonneg _
      have hk1 : (k : Int) < (n : Int) := by omega
      clear hs hlen hq hr hle1
      go_wp2
      go_roundw
      case rel => exact ⟨k + 1, by omega, by go_num, trivial, by rw [HLEN.out]; go_num⟩
      case measure => simp [intOf]; omega
    · obtain rfl : n = k := by omega
      obtain ⟨wO, hwO⟩ : ∃ wO : World, wO = wr := ⟨_, rfl⟩
      subst hwO
      have hle1 := HLE.out n
      obtain ⟨q, hq⟩ : ∃ q, (flT xss n).length = q := ⟨_, rfl⟩
      rw [hq] at hle1
      simp only [hq]
      have CG := Lib.hid (grow_any q (by omega) wO)
      clear hq hlt
      go_wp2_with (go_at_call 107; ((with_reducible refine CG.out.mono ?_); rintro e w1 ⟨v1, rfl, ho1, hb1⟩))
      go_loopw [6, 8, 27] (fun v _ i wr => ∃ k : Nat, k ≤ n ∧ i = .int .i64 k ∧ Below wO.heap.size wO wr ∧ OI wr wO.heap.size v (flT xss k)) (fun _ _ i _ => n - (intOf i).toNat)
      case atStart => exact ⟨0, by omega, rfl, hb1, ho1⟩
      case round =>
        obtain ⟨k, hk, rfl, hbx, hox⟩ := hrel
        have hk0 : (0 : Int) ≤ (k : Int) := Int.natCast_nonneg _
        by_cases hlt : k < n
        · obtain ⟨b, o, A', c', rfl, hb, hcel, hri⟩ := HROW.out k hlt
          have hs := flT_succ xss k (by rw [HXL.out]; exact hlt)
          have hle1 := HLE.out (k + 1)
          rw [hs, List.length_append] at hle1
          have hcelx := (hbx.cell (p := ⟨b, o + k, none⟩) hb).trans hcel
          have hrix := hri.keep hbx
          obtain ⟨row, hrow⟩ : ∃ row, xss.getD k [] = row := ⟨_, rfl⟩
          rw [hrow] at hcelx hrix hs hle1
          have hk1 : (k : Int) < (n : Int) := by omega
          by_cases hz : row.length = 0
          · have hnil : row = [] := List.eq_nil_of_length_eq_zero hz
            rw [hz] at hcelx
            have hs0 : flT xss (k + 1) = flT xss k := by rw [hs, hnil, List.append_nil]
            have HS := Lib.hid hs0
            have hrz := run_append_zero hox A' c'
            have HOX := Lib.hid hox
            clear hs hs0 hrix hrow hle1 hz hnil hox hcel hri
            go_wp2_with (at_builtin; refine Lib.wpList_append_run _ rfl _ _ _ _ rfl _ _ rfl rfl _ _ (hrz _) ?_)
            go_roundw
            case rel => exact ⟨k + 1, by omega, by go_num, hbx, by rw [HS.out]; exact HOX.out⟩
            case measure => simp [intOf]; omega
          · obtain ⟨b', o', rfl, hb', hcx⟩ := hrix.2 (by omega)
            have HCX := Lib.hid hcx
            have HS := Lib.hid hs
            obtain ⟨i0, hi, hz0, hz1, hz2⟩ := info_parts Try.infoInt
            obtain ⟨cur, hcur⟩ : ∃ cur, flT xss k = cur := ⟨_, rfl⟩
            rw [hcur] at hle1
            have HCUR := Lib.hid hcur
            have HOC : Hid (OI wr wO.heap.size _ cur) := Lib.hid (hcur ▸ hox)
            obtain ⟨rl, hrl⟩ : ∃ rl, row.length = rl := ⟨_, rfl⟩
            rw [hrl] at hcelx hle1
            have HRL := Lib.hid hrl
            clear hs hcx hox hcel hrow hcur hrl hrix hri hz
            go_wp2_with (at_builtin; refine wpList_append_own _ rfl (.tmp 31) (.tmp 32) 22 rfl wO.heap.size 3 i0 (.int .i64 0) 1 8 Try.underlying22 hi hz0 hz1 hz2 rfl (by decide) _ _ (ints cur) rfl HOC.out ⟨b', o', none⟩ rl c' (ints row) rfl (by simp [HRL.out]) ?c1 ?c2 ?c3 ?c4 ?c5 ?_)
            case c1 =>
              intro j u hj
              have hjl : j < row.length := by
                have := (List.getElem?_eq_some_iff.1 hj).1
                simpa using this
              have h1 := HCX.out j hjl
              have ha : (⟨b', o', none⟩ : Addr).add j = ⟨b', o' + j, none⟩ := by unfold Addr.add; split <;> simp_all
              rw [ha, h1]
              simp [hjl] at hj
              simp [List.getD, hjl, hj]
            case c2 => intro u hu; obtain ⟨x, _, rfl⟩ := List.mem_map.1 hu; rfl
            case c3 => unfold maxLen; omega
            case c4 => omega
            case c5 => exact hbx.size
            intro v2 w2 ho2 hg2 _
            have hb2 : Below wO.heap.size wO w2 := hbx.grown hg2 hbx.size (fun q hq => (World.ownsRow.lt HOC.out q hq).1)
            have HO2 : Hid (OI w2 wO.heap.size v2 (flT xss (k + 1))) := Lib.hid (by
              rw [HS.out, HCUR.out]
              unfold OI
              have e1 : (cur ++ row).length = cur.length + rl := by rw [List.length_append, HRL.out]
              have e2 : ints (cur ++ row) = ints cur ++ ints row := by simp [ints]
              rw [e1, e2]; exact ho2)
            clear ho2 hg2
            go_wp2
            go_roundw
            case rel => exact ⟨k + 1, by omega, by go_num, hb2, HO2.out⟩
            case measure => simp [intOf]; omega
        · obtain rfl : n = k := by omega
          have HOX := Lib.hid hox
          clear hox
          go_wp2
          go_ret
          exact ⟨_, rfl, by have h1 := HOX.out; rw [← HXL.out, HF.out] at h1; exact h1, hbx⟩
/-- Two rows in a new array. -/
theorem rows_two {w : World} {A B : Option Addr} {na ca nb cb : Nat} {xs ys : List Int} (hA : RI w A na xs) (hB : RI w B nb ys) :
    RowsRI (w.alloc (.cells #[.slice A na ca, .slice B nb cb] 22)) (some ⟨w.heap.size, 0, none⟩) 2 [xs, ys] := by
  obtain rfl := hA.1
  obtain rfl := hB.1
  have hb := below_alloc w (.cells #[.slice A xs.length ca, .slice B ys.length cb] 22)
  have new : ∀ i, (w.alloc (.cells #[.slice A xs.length ca, .slice B ys.length cb] 22)).cell? ⟨w.heap.size, i, none⟩ = #[Value.slice A xs.length ca, .slice B ys.length cb][i]? := fun i => World.cell?_alloc_at _ _ _ _ rfl
  intro i hi
  have hi2 : i = 0 ∨ i = 1 := by omega
  rcases hi2 with rfl | rfl
  · refine ⟨_, 0, A, ca, rfl, by simp, ?_, ?_⟩
    · rw [Nat.zero_add, new 0]; simp
    · exact hA.keep hb
  · refine ⟨_, 0, B, cb, rfl, by simp, ?_, ?_⟩
    · rw [Nat.zero_add, new 1]; simp
    · exact hB.keep hb

end Go.Proofs.Ytkfjledhnakfoaa

/- Walks: slices.Clone, slices.Equal, Clone, Equal; the reference's Copy and Equal. -/
namespace Go.Proofs.Ytkfjledhnakfoaa
open Go.ChangeShapes Go.WideShapes Go.ChangeAt Go.RowKit

set_option maxRecDepth 100000 in
/-- append of a slice that reads as a list to a slice of the call's own. -/
theorem wpList_append_ints {ops : Array Oper} {rest : List Oper} {o : Oper} {a : Act} {w : World} {Q : Exit → Act → World → Prop} (hgd : o.guard = none) (s x : Operand)
    (ho : o.op = .call { callee := .builtin .append, args := #[s, x], argTypes := #[22, 22] }) (B : Nat) (v : Value) (xs : List Int) (hs : a.eval s = v) (hown : OI w B v xs)
    (ad : Addr) (n c : Nat) (ys : List Int) (hx : a.eval x = .slice (some ad) n c) (hr : RI w (some ad) n ys) (hlen : xs.length + n ≤ 1000000000) (hbase : B ≤ w.heap.size)
    (h : ∀ v' w', OI w' B v' (xs ++ ys) → w.grownBy w' v.ownBlock → (v' = .slice none 0 0 → v = .slice none 0 0) → wpList Try.prog ops Q rest (a.put o.dst v') w') : wpList Try.prog ops Q (o :: rest) a w := by
  obtain ⟨i0, hi, hz0, hz1, hz2⟩ := info_parts Try.infoInt
  have hl := hr.1
  refine wpList_append_own w hgd s x 22 ho B 3 i0 (.int .i64 0) 1 8 Try.underlying22 hi hz0 hz1 hz2 rfl (by decide) v xs.length (ints xs) hs hown ad n c (ints ys) hx (by simp [ints, hl]) ?_ ?_ (by unfold maxLen; omega) (by omega) hbase ?_
  · intro j u hj
    have hjn : j < ys.length := by
      have := (List.getElem?_eq_some_iff.1 hj).1
      simpa [ints] using this
    obtain ⟨b, off, e, _, hc⟩ := hr.2 (by omega)
    obtain rfl := Option.some.inj e
    rw [add_plain, hc j (by omega)]
    simp [ints, hjn] at hj
    rw [← hj]
    simp [List.getD, hjn]
  · intro u hu
    simp [ints] at hu
    obtain ⟨z, _, rfl⟩ := hu
    rfl
  · intro v' w' h1 h2 h3
    refine h v' w' ?_ h2 (fun e => (h3.1 e).1)
    unfold OI
    simpa [ints, hl] using h1

def ClPost (w : World) (n : Nat) (xs : List Int) (e : Ending) (w' : World) : Prop := ∃ A c, e = .returned (.slice A n c) ∧ OI w' w.heap.size (.slice A n c) xs ∧ Below w.heap.size w w'
theorem OI.empty (w : World) (B : Nat) (hB : B ≤ w.heap.size) : OI (w.alloc (.cells #[] 3)) B (.slice (some ⟨w.heap.size, 0, none⟩) 0 0) [] :=
  World.ownsRow_lit w #[] 0 hB (by simp [maxLen]) rfl

set_option maxHeartbeats 800000 in
theorem sclone_any (A : Option Addr) (n c : Nat) (xs : List Int) (w : World) (hr : RI w A n xs) (hn : n ≤ 1000000) :
    Calls Try.prog 113 #[.slice A n c] w (ClPost w n xs) := by
  cases A with
  | none =>
    obtain rfl : n = 0 := by
      rcases Nat.eq_zero_or_pos n with h0 | h0
      · exact h0
      · obtain ⟨b, off, e, _⟩ := hr.2 h0
        cases e
    have hx : xs = [] := List.length_eq_zero_iff.1 hr.1
    subst hx
    clear hr
    have hnl := fun (W : World) => Lib.run_eql_slice_nil (P := Try.prog) W 22 3 none 0 c 0 0 Try.underlying22
    go_enter Try.func113, Try.ntmps113
    go_wp2
    go_ret
    exact ⟨_, _, rfl, OI.nil _ _, Below.refl _ _⟩
  | some ad =>
    have h0 := OI.empty w w.heap.size (Nat.le_refl _)
    have hb0 := below_alloc w (.cells #[] 3)
    have hr1 := hr.alloc (.cells #[] 3)
    have hl := hr.1
    have HL := Lib.hid hl
    have hnl := fun (W : World) => Lib.run_eql_slice_nil (P := Try.prog) W 22 3 (some ad) n c 0 0 Try.underlying22
    clear hr hl
    go_enter Try.func113, Try.ntmps113
    go_wp2_with (at_builtin
                 refine wpList_append_ints rfl (.tmp 5) (.tmp 6) rfl w.heap.size (.slice (some ⟨w.heap.size, 0, none⟩) 0 0) [] rfl h0 ad n c xs rfl hr1 (by simp; omega) hb0.size ?_
                 intro v2 w2 hown2 hg2 hnn)
    have hb2 : Below w.heap.size w w2 := hb0.grown hg2 hb0.size (fun k hk => by simp [Value.ownBlock] at hk; omega)
    have hform : ∃ A' c', v2 = .slice A' n c' := by
      rcases hown2.form with ⟨e, he⟩ | ⟨g, cap, e, _⟩
      · have := hnn e; cases this
      · exact ⟨some ⟨g, 0, none⟩, cap, by rw [e]; simp [HL.out]⟩
    obtain ⟨A', c', rfl⟩ := hform
    go_ret
    exact ⟨A', c', rfl, by simpa using hown2, hb2⟩

set_option maxHeartbeats 800000 in
theorem sequal_r (r : Bool) (A B : Option Addr) (n c m d : Nat) (xs ys : List Int) (w : World) (hx : RI w A n xs) (hy : RI w B m ys) (hn : n ≤ 1000000000000000) (hm : m ≤ 1000000000000000) (hr : r = decide (xs = ys)) :
    Calls Try.prog 25 #[.slice A n c, .slice B m d] w fun e w' => e = .returned (.bool r) ∧ Below w.heap.size w w' := by
  have hlx := hx.1
  have hly := hy.1
  by_cases hnm : n = m
  · subst hnm
    have HLX := Lib.hid hlx
    have HLY := Lib.hid hly
    have HR := Lib.hid hr
    have HE : Hid (∀ j, j < 0 → xs.getD j 0 = ys.getD j 0) := fun j hj => absurd hj (by omega)
    clear hlx hly hr
    go_enter Try.func25, Try.ntmps25
    go_wp2
    go_loopw [5, 13] (fun _ i wr => ∃ k : Nat, k ≤ n ∧ i = .int .i64 k ∧ Below w.heap.size w wr ∧ Hid (∀ j, j < k → xs.getD j 0 = ys.getD j 0)) (fun _ i _ => n - (intOf i).toNat)
    case atStart => exact ⟨0, by omega, rfl, Below.refl _ _, HE⟩
    case round =>
      obtain ⟨k, hk, rfl, hbr, hall⟩ := hrel
      by_cases hlt : k < n
      · obtain ⟨b, off, rfl, hb, hc⟩ := (hx.keep hbr).2 (by omega)
        obtain ⟨b', off', rfl, hb', hc'⟩ := (hy.keep hbr).2 (by omega)
        have h1 := hc k hlt
        have h2 := hc' k hlt
        have hk0 : (0 : Int) ≤ (k : Int) := Int.natCast_nonneg _
        have hk1 : (k : Int) < (n : Int) := by omega
        by_cases he : xs.getD k 0 = ys.getD k 0
        · have hall' : Hid (∀ j, j < k + 1 → xs.getD j 0 = ys.getD j 0) := fun j hj => by
            by_cases e : j = k
            · subst e; exact he
            · exact hall.out j (by omega)
          rw [← he] at h2
          clear hx hy hc hc' he
          generalize xs.getD k 0 = x at *
          go_wp2
          go_quiet (fail)
          go_wp2
          go_roundw
          case rel => exact ⟨k + 1, by omega, by go_num, below_drewN hbr _, hall'⟩
          case measure => simp [intOf]; omega
        · have hne : (xs.getD k 0 != ys.getD k 0) = true := by simp only [bne_iff_ne, ne_eq]; exact he
          have hrf : r = false := by
            rw [HR.out, decide_eq_false_iff_not]
            intro e; exact he (by rw [e])
          subst hrf
          clear hx hy hc hc' he HR
          generalize xs.getD k 0 = x at *
          generalize ys.getD k 0 = y at *
          go_wp2
          go_quiet (fail)
          go_wp2
          go_ret
          exact ⟨rfl, below_drewN hbr _⟩
      · obtain rfl : k = n := by omega
        have hrt : r = true := by
          rw [HR.out, decide_eq_true_eq]
          exact eq_of_getD (by rw [HLX.out, HLY.out]) (fun j hj => hall.out j (by rw [← HLX.out]; exact hj))
        subst hrt
        clear hx hy HR
        go_wp2
        go_ret
        exact ⟨rfl, hbr⟩
  · have hrf : r = false := by
      rw [hr, decide_eq_false_iff_not]
      intro e; rw [e] at hlx; omega
    subst hrf
    have hne : ((n : Int) != (m : Int)) = true := by simp only [bne_iff_ne, ne_eq]; omega
    clear hx hy hlx hly hr hnm
    go_enter Try.func25, Try.ntmps25
    go_wp2
    go_ret
    exact ⟨rfl, Below.refl _ _⟩

/-- What Clone returns: a diagram whose slices are new. -/
def ClonePost (w : World) (ns nm : Nat) (lp : Int) (signs mate : List Int) (e : Ending) (w' : World) : Prop :=
  ∃ A cs B cm, e = .returned (dval A ns cs B nm cm lp) ∧ OI w' w.heap.size (.slice A ns cs) signs ∧ OI w' w.heap.size (.slice B nm cm) mate ∧
    ((Value.slice A ns cs).ownBlock = none ∨ (Value.slice A ns cs).ownBlock ≠ (Value.slice B nm cm).ownBlock) ∧ Below w.heap.size w w'

theorem OI.block_ne {w w' : World} {B : Nat} {A A' : Option Addr} {n c n' c' : Nat} {xs ys : List Int} (h : OI w B (.slice A n c) xs) (k : OI w' w.heap.size (.slice A' n' c') ys) :
    (Value.slice A n c).ownBlock = none ∨ (Value.slice A n c).ownBlock ≠ (Value.slice A' n' c').ownBlock := by
  cases hg : (Value.slice A n c).ownBlock with
  | none => exact .inl rfl
  | some g =>
    refine .inr fun e => ?_
    have h1 := (World.ownsRow.lt h g hg).2
    have h2 := (World.ownsRow.lt k g e.symm).1
    omega

abbrev set3 (W : World) (g : Nat) (a b c : Value) : World := ((W.setCell ⟨g, 0, none⟩ a).setCell ⟨g, 1, none⟩ b).setCell ⟨g, 2, none⟩ c
theorem set3_far (W : World) (g : Nat) (a b c : Value) {h : Nat} (hne : g ≠ h) (i : Nat) : (set3 W g a b c).cell? ⟨h, i, none⟩ = W.cell? ⟨h, i, none⟩ := by
  unfold set3
  rw [World.cell?_setCell_other _ _ _ _ (by simp), World.cell?_setCell_other _ _ _ _ (by simp), World.cell?_setCell_other _ _ _ _ (by simp)]
theorem set3_cells (W : World) (g : Nat) (a b c : Value) {u0 u1 u2 : Value} (q0 : W.cell? ⟨g, 0, none⟩ = some u0) (q1 : W.cell? ⟨g, 1, none⟩ = some u1) (q2 : W.cell? ⟨g, 2, none⟩ = some u2) :
    (set3 W g a b c).cell? ⟨g, 0, none⟩ = some a ∧ (set3 W g a b c).cell? ⟨g, 1, none⟩ = some b ∧ (set3 W g a b c).cell? ⟨g, 2, none⟩ = some c := by
  unfold set3
  refine ⟨?_, ?_, ?_⟩
  · rw [World.cell?_setCell_other _ _ _ _ (by simp), World.cell?_setCell_other _ _ _ _ (by simp), World.cell?_setCell_same _ _ _ q0]
  · have h1 : (W.setCell ⟨g, 0, none⟩ a).cell? ⟨g, 1, none⟩ = some u1 := by rw [World.cell?_setCell_other _ _ _ _ (by simp)]; exact q1
    rw [World.cell?_setCell_other _ _ _ _ (by simp), World.cell?_setCell_same _ _ _ h1]
  · have h2 : ((W.setCell ⟨g, 0, none⟩ a).setCell ⟨g, 1, none⟩ b).cell? ⟨g, 2, none⟩ = some u2 := by rw [World.cell?_setCell_other _ _ _ _ (by simp), World.cell?_setCell_other _ _ _ _ (by simp)]; exact q2
    rw [World.cell?_setCell_same _ _ _ h2]
theorem set3_below {B : Nat} {a W : World} (h : Below B a W) {g : Nat} (hg : B ≤ g) (x y z : Value) : Below B a (set3 W g x y z) := below_set (below_set (below_set h hg _) hg _) hg _
theorem OI.set3 {W : World} {B : Nat} {v : Value} {xs : List Int} (h : OI W B v xs) {g : Nat} (hg : v.ownBlock ≠ some g) (x y z : Value) : OI (set3 W g x y z) B v xs := ((h.far (p := ⟨g, 0, none⟩) hg _).far (p := ⟨g, 1, none⟩) hg _).far (p := ⟨g, 2, none⟩) hg _

set_option maxHeartbeats 3200000 in
theorem clone_any (A B : Option Addr) (ns cs nm cm : Nat) (lp : Int) (signs mate : List Int) (w : World) (hs : RI w A ns signs) (hm : RI w B nm mate) (hns : ns ≤ 1000) (hnm : nm ≤ 1000) :
    Calls Try.prog 81 #[dval A ns cs B nm cm lp] w (ClonePost w ns nm lp signs mate) := by
  have hd := (DB.new w A ns cs B nm cm lp).keep (below_alloc _ (.cells #[.slice none 0 0, .slice none 0 0, .int .i64 0] 24))
  have hb0 := below_step (below_alloc w (dbox A ns cs B nm cm lp)) (below_alloc _ (.cells #[.slice none 0 0, .slice none 0 0, .int .i64 0] 24))
  have hr := DB.new (w.alloc (dbox A ns cs B nm cm lp)) none 0 0 none 0 0 0
  have hrf : ∀ i, ((w.alloc (dbox A ns cs B nm cm lp)).alloc (.cells #[.slice none 0 0, .slice none 0 0, .int .i64 0] 24)).frozen? ⟨w.heap.size + 1, i, none⟩ = false := fun i => World.frozen?_alloc_at _ _ _ _ (by simp)
  have hsz : ((w.alloc (dbox A ns cs B nm cm lp)).alloc (.cells #[.slice none 0 0, .slice none 0 0, .int .i64 0] 24)).heap.size = w.heap.size + 2 := by simp
  have hsz1 : (w.alloc (dbox A ns cs B nm cm lp)).heap.size = w.heap.size + 1 := by simp
  rw [hsz1] at hr
  go_enter Try.func81, Try.ntmps81
  go_wp2
  generalize (w.alloc (dbox A ns cs B nm cm lp)).alloc (.cells #[.slice none 0 0, .slice none 0 0, .int .i64 0] 24) = wA at hd hb0 hr hrf hsz ⊢
  obtain ⟨g1, hg1⟩ : ∃ g1, w.heap.size + 1 = g1 := ⟨_, rfl⟩
  rw [hg1] at hr hrf ⊢
  have hlt1 : w.heap.size < g1 := by omega
  have hltA : g1 < wA.heap.size := by omega
  clear hg1 hsz hsz1
  obtain ⟨d0, d1, d2, dlt⟩ := hd
  obtain ⟨r0, r1, r2, rlt⟩ := hr
  have hs1 := hs.keep hb0
  have hm1 := hm.keep hb0
  have HRF := Lib.hid hrf
  have CA : ∀ W : World, Below wA.heap.size wA W → Hid (Calls Try.prog 113 #[.slice A ns cs] W (ClPost W ns signs)) := fun W hb => sclone_any A ns cs signs W (hs1.keep hb) (by omega)
  have CB : ∀ W : World, Below wA.heap.size wA W → Hid (Calls Try.prog 113 #[.slice B nm cm] W (ClPost W nm mate)) := fun W hb => sclone_any B nm cm mate W (hm1.keep hb) (by omega)
  have hbD : Below wA.heap.size wA wA.drew := (Below.refl _ _).drew
  clear hs hm hs1 hm1 hrf
  go_region_held3 (fun w' => w'.cell? ⟨w.heap.size, 0, none⟩ = some (.slice A ns cs) ∧ w'.cell? ⟨w.heap.size, 1, none⟩ = some (.slice B nm cm) ∧ w'.cell? ⟨w.heap.size, 2, none⟩ = some (.int .i64 lp))
    (first
      | go_keep
      | exact ⟨(set3_far w3 g1 _ _ _ (Nat.ne_of_gt hlt1) 0).trans ((hbC.cell (p := ⟨w.heap.size, 0, none⟩) dlt).trans d0), (set3_far w3 g1 _ _ _ (Nat.ne_of_gt hlt1) 1).trans ((hbC.cell (p := ⟨w.heap.size, 1, none⟩) dlt).trans d1), (set3_far w3 g1 _ _ _ (Nat.ne_of_gt hlt1) 2).trans ((hbC.cell (p := ⟨w.heap.size, 2, none⟩) dlt).trans d2)⟩
      | exact ⟨(hbC.cell (p := ⟨w.heap.size, 0, none⟩) dlt).trans d0, (hbC.cell (p := ⟨w.heap.size, 1, none⟩) dlt).trans d1, (hbC.cell (p := ⟨w.heap.size, 2, none⟩) dlt).trans d2⟩
      | exact ⟨(hbB.cell (p := ⟨w.heap.size, 0, none⟩) dlt).trans d0, (hbB.cell (p := ⟨w.heap.size, 1, none⟩) dlt).trans d1, (hbB.cell (p := ⟨w.heap.size, 2, none⟩) dlt).trans d2⟩)
    (first
      | (go_at_call 113; ((with_reducible refine (CA _ hbD).out.mono ?_); rintro e w2 ⟨A1, c1, rfl, ho1, hb1⟩; have hbB := below_step hbD hb1))
      | (go_at_call 113; ((with_reducible refine (CB _ hbB).out.mono ?_); rintro e w3 ⟨B1, m1, rfl, ho2, hb2⟩; have hbC := below_step hbB hb2; have q0 := (hbC.cell (p := ⟨g1, 0, none⟩) rlt).trans r0; have q1 := (hbC.cell (p := ⟨g1, 1, none⟩) rlt).trans r1; have q2 := (hbC.cell (p := ⟨g1, 2, none⟩) rlt).trans r2; have f0 := (hbC.frozen (p := ⟨g1, 0, none⟩) rlt).trans (HRF.out 0); have f1 := (hbC.frozen (p := ⟨g1, 1, none⟩) rlt).trans (HRF.out 1); have f2 := (hbC.frozen (p := ⟨g1, 2, none⟩) rlt).trans (HRF.out 2))))
  obtain ⟨k0, k1, k2⟩ := set3_cells w3 g1 (.slice A1 ns c1) (.slice B1 nm m1) (.int .i64 lp) q0 q1 q2
  have n1 : (Value.slice A1 ns c1).ownBlock ≠ some g1 := fun e => by have := (World.ownsRow.lt ho1 g1 e).1; have := hbD.size; omega
  have n2 : (Value.slice B1 nm m1).ownBlock ≠ some g1 := fun e => by have := (World.ownsRow.lt ho2 g1 e).1; have := hbB.size; omega
  have o1 := ((ho1.keep hb2).set3 n1 (.slice A1 ns c1) (.slice B1 nm m1) (.int .i64 lp)).mono (B' := w.heap.size) (Nat.le_trans hb0.size hbD.size)
  have o2 := (ho2.set3 n2 (.slice A1 ns c1) (.slice B1 nm m1) (.int .i64 lp)).mono (B' := w.heap.size) (Nat.le_trans hb0.size hbB.size)
  have hne := ho1.block_ne ho2
  have hbF := set3_below (hb0.trans (hbC.mono hb0.size)) (Nat.le_of_lt hlt1) (.slice A1 ns c1) (.slice B1 nm m1) (.int .i64 lp)
  have HF := Lib.hid (show ClonePost w ns nm lp signs mate (.returned (dval A1 ns c1 B1 nm m1 lp)) (set3 w3 g1 (.slice A1 ns c1) (.slice B1 nm m1) (.int .i64 lp)) from ⟨A1, c1, B1, m1, rfl, o1, o2, hne, hbF⟩)
  clear o1 o2 hne hbF n1 n2 ho1 ho2
  go_wp2
  exact bodyPost_ret (v := dval A1 ns c1 B1 nm m1 lp) (by simp [results, Try.results81, go_sem, k0, k1, k2]) rfl HF.out

end Go.Proofs.Ytkfjledhnakfoaa

/- Words for memory: a store into one row leaves the others as they were. -/
namespace Go.Proofs.Ytkfjledhnakfoaa
open Go.RowKit

theorem OI.set_ {w : World} {B g n cap : Nat} {xs : List Int} (h : OI w B (.slice (some ⟨g, 0, none⟩) n cap) xs) (hl : xs.length = n) (j : Nat) (z : Int) :
    OI (w.setCell ⟨g, j, none⟩ (.int .i64 z)) B (.slice (some ⟨g, 0, none⟩) n cap) (xs.set j z) ∧ w.grownBy (w.setCell ⟨g, j, none⟩ (.int .i64 z)) (some g) := by
  subst hl
  have := World.ownsRow.stored h j (.int .i64 z)
  refine ⟨?_, this.2⟩
  unfold OI
  simpa [ints, List.map_set] using this.1

theorem OI.apart_lt {w : World} {B : Nat} {v : Value} {xs : List Int} (h : OI w B v xs) (row : Option Nat) (hr : ∀ g, row = some g → g < B) : v.ownBlock = none ∨ v.ownBlock ≠ row := by
  cases hv : v.ownBlock with
  | none => exact .inl rfl
  | some g =>
    refine .inr fun e => ?_
    have h1 := (World.ownsRow.lt h g hv).1
    have h2 := hr g e.symm
    omega

theorem ownRow.apart_lt {w : World} {B : Nat} {e : TypeId} {v : Value} {vs : List Value} (h : ownRow w B e v vs) (row : Option Nat) (hr : ∀ g, row = some g → g < B) : v.ownBlock = none ∨ v.ownBlock ≠ row := by
  cases hv : v.ownBlock with
  | none => exact .inl rfl
  | some g =>
    refine .inr fun e => ?_
    have h1 := (World.ownsRow.lt h g hv).1
    have h2 := hr g e.symm
    omega
theorem OO.grown_lt {w w' : World} {B : Nat} {v : Value} {xss : List (List Int)} (h : OO w B v xss) {row : Option Nat} (hg : w.grownBy w' row) (hr : ∀ g, row = some g → g < B) : OO w' B v xss := by
  obtain ⟨vs, h1, h2, h3⟩ := h
  exact ⟨vs, World.ownsRow.kept h1 hg (h1.apart_lt row hr), h2, fun i hi => (h3 i hi).grown hg ((h3 i hi).apart_lt row hr)⟩
theorem grown_set {w wr : World} {g : Nat} (h : w.grownBy wr (some g)) (j : Nat) (u : Value) : w.grownBy (wr.setCell ⟨g, j, none⟩ u) (some g) :=
  h.trans ⟨rfl, rfl, rfl, by simp [World.setCell], fun k _ hne => Below.heap_setCell wr ⟨g, j, none⟩ u k (by rintro rfl; exact hne rfl)⟩
theorem grown_below {W w w' : World} {B : Nat} (hb : Below B W w) {g : Nat} (hg : w.grownBy w' (some g)) (hB : B ≤ w.heap.size) (hgB : B ≤ g) : Below B W w' := hb.grown hg hB (fun k e => by injection e with e; omega)
/-- A row of a slice of slices of the call's own. -/
theorem OO.el {w : World} {B n c : Nat} {A : Option Addr} {xss : List (List Int)} (h : OO w B (.slice A n c) xss) (k : Nat) (hk : k < xss.length) :
    n = xss.length ∧ ∃ gA A' n' c', A = some ⟨gA, 0, none⟩ ∧ B ≤ gA ∧ gA < w.heap.size ∧ w.cell? ⟨gA, k, none⟩ = some (.slice A' n' c') ∧ OI w B (.slice A' n' c') (xss.getD k []) := by
  obtain ⟨vs, h1, h2, h3⟩ := h
  have hk' : k < vs.length := by omega
  have h8 := h3 k hk
  have h9 : vs.getD k undef = vs[k] := by simp [List.getD, hk']
  rw [h9] at h8
  have hsl : ∃ A' n' c', vs[k] = .slice A' n' c' := by
    rcases h8.form with ⟨e, _⟩ | ⟨g', cap', e, _⟩
    · exact ⟨_, _, _, e⟩
    · exact ⟨_, _, _, e⟩
  obtain ⟨A', n', c', e⟩ := hsl
  rcases h1.2 with ⟨h4, h5⟩ | ⟨g, cap, cur, h4, hB, hg, _⟩
  · omega
  · injection h4 with e1 e2 e3
    have hlt : g < w.heap.size := by
      rcases Nat.lt_or_ge g w.heap.size with hlt | hge
      · exact hlt
      · rw [Array.getElem?_eq_none hge] at hg; cases hg
    subst e1; subst e2; subst e3
    have h6 : w.cell? ⟨g, k, none⟩ = vs[k]? := World.ownsRow.cellAt h1 k (by omega)
    rw [e] at h8
    exact ⟨h2, g, A', n', c', rfl, hB, hlt, by rw [h6, List.getElem?_eq_getElem hk', e], h8⟩

end Go.Proofs.Ytkfjledhnakfoaa
