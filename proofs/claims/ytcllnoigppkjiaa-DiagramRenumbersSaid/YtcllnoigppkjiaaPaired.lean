/- Walks: signsValid, matesPaired. -/
import Derived.Test.YtcllnoigppkjiaaSmall
import Derived.Deep.RegionHeld3
import Derived.Deep.DeepCutAuto
import Derived.StillTailTactics
namespace Go.Proofs.Ytcllnoigppkjiaa
open Go.RowKit

set_option maxHeartbeats 800000 in
theorem index_all (A : Option Addr) (n c : Nat) (xs : List Int) (w : World) (hs : RI w A n xs) (hn : n ≤ 1000000000000000) (hg : ∀ j, j < n → sgB (xs.getD j 0) = true) :
    Calls Try.prog 68 #[.slice A n c, .func (.func 65) #[] #[]] w fun e w' => e = .returned (.int .i64 (-1)) ∧ w = w' := by
  by_cases hn0 : n = 0
  · subst hn0
    clear hs hg
    go_enter Try.func68, Try.ntmps68
    go_wp2
    go_loop [5, 8] (fun _ i => i = .int .i64 (0 : Nat)) (fun _ _ => 0)
    case atStart => rfl
    case round =>
      obtain rfl := hrel
      go_wp2
      go_ret
      exact ⟨rfl, rfl⟩
  · obtain ⟨b, off, rfl, hb, hc⟩ := hs.2 (by omega)
    clear hs
    go_enter Try.func68, Try.ntmps68
    go_wp2
    go_loop [5, 8] (fun _ i => ∃ k : Nat, k ≤ n ∧ i = .int .i64 k) (fun _ i => n - (intOf i).toNat)
    case atStart => exact ⟨0, by omega, rfl⟩
    case round =>
      obtain ⟨k, hk, rfl⟩ := hrel
      by_cases hlt : k < n
      · have hcell := hc k hlt
        have hgk := hg k hlt
        clear hc hg
        generalize xs.getD k 0 = x at hcell hgk
        have HG := Lib.hid hgk
        clear hgk
        go_wp2_with (go_at_call 65; refine (badsign_any _ _).mono ?_; rintro e w' ⟨rfl, rfl⟩; rw [HG.out])
        go_round
        case rel => exact ⟨k + 1, by omega, by go_num⟩
        case measure => simp [intOf]; omega
      · clear hc hg
        go_wp2
        go_ret
        exact ⟨rfl, rfl⟩

set_option maxHeartbeats 800000 in
theorem index_bad (A : Option Addr) (n c j0 : Nat) (xs : List Int) (w : World) (hs : RI w A n xs) (hn : n ≤ 1000000000000000) (hj : j0 < n) (hg : ∀ j, j < j0 → sgB (xs.getD j 0) = true) (hbad : sgB (xs.getD j0 0) = false) :
    Calls Try.prog 68 #[.slice A n c, .func (.func 65) #[] #[]] w fun e w' => e = .returned (.int .i64 j0) ∧ w = w' := by
  obtain ⟨b, off, rfl, hb, hc⟩ := hs.2 (by omega)
  clear hs
  go_enter Try.func68, Try.ntmps68
  go_wp2
  go_loop [5, 8] (fun _ i => ∃ k : Nat, k ≤ j0 ∧ i = .int .i64 k) (fun _ i => n - (intOf i).toNat)
  case atStart => exact ⟨0, by omega, rfl⟩
  case round =>
    obtain ⟨k, hk, rfl⟩ := hrel
    have hlt : k < n := by omega
    have hcell := hc k hlt
    by_cases hlt : k < j0
    · have hgk := hg k hlt
      clear hc hg hbad
      generalize xs.getD k 0 = x at hcell hgk
      have HG := Lib.hid hgk
      clear hgk
      go_wp2_with (go_at_call 65; refine (badsign_any _ _).mono ?_; rintro e w' ⟨rfl, rfl⟩; rw [HG.out])
      go_round
      case rel => exact ⟨k + 1, by omega, by go_num⟩
      case measure => simp [intOf]; omega
    · obtain rfl : k = j0 := by omega
      clear hc hg
      generalize xs.getD k 0 = x at hcell hbad
      have HG := Lib.hid hbad
      clear hbad
      go_wp2_with (go_at_call 65; refine (badsign_any _ _).mono ?_; rintro e w' ⟨rfl, rfl⟩; rw [HG.out])
      go_ret
      exact ⟨rfl, rfl⟩

theorem least_bad (p : Nat → Bool) (n : Nat) (h : ¬ ∀ j, j < n → p j = true) : ∃ j0, j0 < n ∧ (∀ j, j < j0 → p j = true) ∧ p j0 = false := by
  induction n with
  | zero => exact absurd (fun j hj => absurd hj (by omega)) h
  | succ n ih =>
    by_cases hn : ∀ j, j < n → p j = true
    · refine ⟨n, by omega, hn, ?_⟩
      cases hp : p n with
      | false => rfl
      | true => exact absurd (fun j hj => by
          by_cases e : j = n
          · subst e; exact hp
          · exact hn j (by omega)) h
    · obtain ⟨j0, h1, h2, h3⟩ := ih hn
      exact ⟨j0, by omega, h2, h3⟩

theorem sgnsB_iff (xs : List Int) : sgnsB xs = true ↔ ∀ j, j < xs.length → sgB (xs.getD j 0) = true := by
  unfold sgnsB
  rw [List.all_eq_true]
  constructor
  · intro h j hj
    have : xs.getD j 0 = xs[j] := by simp [List.getD, hj]
    rw [this]; exact h _ (List.getElem_mem _)
  · intro h x hx
    obtain ⟨j, hj, rfl⟩ := List.mem_iff_getElem.1 hx
    have : xs.getD j 0 = xs[j] := by simp [List.getD, hj]
    rw [← this]; exact h j hj

set_option maxHeartbeats 800000 in
theorem contains_any (A : Option Addr) (n c : Nat) (xs : List Int) (w : World) (hs : RI w A n xs) (hn : n ≤ 1000000000000000) :
    Calls Try.prog 64 #[.slice A n c, .func (.func 65) #[] #[]] w fun e w' => e = .returned (.bool (!sgnsB xs)) ∧ w = w' := by
  by_cases hg : ∀ j, j < n → sgB (xs.getD j 0) = true
  · have e : (!sgnsB xs) = false := by
      rw [(sgnsB_iff xs).2 (by rw [hs.1]; exact hg)]; rfl
    rw [e]; clear e
    go_enter Try.func64, Try.ntmps64
    go_wp2_with (go_at_call 68; refine (index_all _ _ _ xs _ hs hn hg).mono ?_; rintro e w' ⟨rfl, rfl⟩)
    go_ret
    exact ⟨rfl, rfl⟩
  · have e : (!sgnsB xs) = true := by
      cases h : sgnsB xs with
      | false => rfl
      | true => exact absurd (by rw [← hs.1]; exact (sgnsB_iff xs).1 h) hg
    rw [e]; clear e
    obtain ⟨j0, h1, h2, h3⟩ := least_bad (fun j => sgB (xs.getD j 0)) n hg
    clear hg
    have H2 := Lib.hid h2
    have H3 := Lib.hid h3
    clear h2 h3
    go_enter Try.func64, Try.ntmps64
    go_wp2_with (go_at_call 68; refine (index_bad _ _ _ j0 xs _ hs hn h1 H2.out H3.out).mono ?_; rintro e w' ⟨rfl, rfl⟩)
    go_ret
    exact ⟨rfl, rfl⟩

set_option maxHeartbeats 800000 in
theorem signs_any (A : Option Addr) (n c : Nat) (xs : List Int) (w : World) (hs : RI w A n xs) (hn : n ≤ 1000000000000000) :
    Calls Try.prog 45 #[.slice A n c] w fun e w' => e = .returned (.bool (sgnsB xs)) ∧ w = w' := by
  go_enter Try.func45, Try.ntmps45
  go_wp2_with (go_at_call 64; refine (contains_any _ _ _ xs _ hs hn).mono ?_; rintro e w' ⟨rfl, rfl⟩)
  go_ret
  exact ⟨ret_bool (by simp), rfl⟩

end Go.Proofs.Ytcllnoigppkjiaa
