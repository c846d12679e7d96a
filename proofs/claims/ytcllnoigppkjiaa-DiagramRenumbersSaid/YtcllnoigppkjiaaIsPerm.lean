/- Walks of the reference: In, IsPerm. -/
import Derived.Test.YtcllnoigppkjiaaRenPlain
import Derived.Test.YtcllnoigppkjiaaMem
namespace Go.Proofs.Ytcllnoigppkjiaa
open Go.RowKit

set_option maxHeartbeats 800000 in
theorem in_any (A : Option Addr) (n c : Nat) (o : List Int) (x : Int) (r : Bool) (w : World) (ho : RI w A n o) (hn : n ≤ 1000) (hr : decide (x ∈ o) = r) :
    Calls Try.prog 63 #[.slice A n c, .int .i64 x] w fun e w' => e = .returned (.bool r) ∧ w = w' := by
  have hol := ho.1
  have HOL := Lib.hid hol
  have HR := Lib.hid hr
  have HE : Hid (∀ j, j < 0 → o.getD j 0 ≠ x) := fun j hj => absurd hj (by omega)
  clear hol hr
  go_enter Try.func63, Try.ntmps63
  go_wp2
  go_loop [5] (fun i => ∃ k : Nat, k ≤ n ∧ i = .int .i64 k ∧ Hid (∀ j, j < k → o.getD j 0 ≠ x)) (fun i => n - (intOf i).toNat)
  case atStart => exact ⟨0, by omega, rfl, HE⟩
  case round =>
    obtain ⟨k, hk, rfl, hall⟩ := hrel
    have hk0 : (0 : Int) ≤ (k : Int) := Int.natCast_nonneg _
    by_cases hlt : k < n
    · obtain ⟨b, off, rfl, hb, hc⟩ := ho.2 (by omega)
      have hcell := hc k hlt
      have hk1 : (k : Int) < (n : Int) := by omega
      by_cases he : o.getD k 0 = x
      · have hrt : r = true := by
          rw [← HR.out, decide_eq_true_eq, ← he]
          exact getD_mem_int (by rw [HOL.out]; exact hlt)
        subst hrt
        rw [he] at hcell
        clear hc ho he
        go_wp2
        go_ret
        exact ⟨rfl, rfl⟩
      · have hne : (o.getD k 0 == x) = false := by simp only [beq_eq_false_iff_ne, ne_eq]; exact he
        have hall' : Hid (∀ j, j < k + 1 → o.getD j 0 ≠ x) := fun j hj => by
          by_cases e : j = k
          · subst e; exact he
          · exact hall.out j (by omega)
        clear hc ho he
        generalize o.getD k 0 = y at *
        go_wp2
        go_round
        case rel => exact ⟨k + 1, by omega, by go_num, hall'⟩
        case measure => simp [intOf]; omega
    · obtain rfl : n = k := by omega
      have hrf : r = false := by
        rw [← HR.out, decide_eq_false_iff_not]
        intro hm
        obtain ⟨j, hj, e⟩ := List.getElem_of_mem hm
        exact hall.out j (by rw [← HOL.out]; exact hj) (by simp [List.getD, hj, e])
      subst hrf
      clear ho hlt hk
      go_wp2
      go_ret
      exact ⟨rfl, rfl⟩

set_option maxHeartbeats 800000 in
theorem isperm_any (A : Option Addr) (n c N : Nat) (o : List Int) (r : Bool) (w : World) (ho : RI w A n o) (hn : n ≤ 1000) (hN : N ≤ 1000) (hr : r = true ↔ IsOrd o N) :
    Calls Try.prog 37 #[.slice A n c, .int .i64 (N : Nat)] w fun e w' => e = .returned (.bool r) ∧ w = w' := by
  have hol := ho.1
  by_cases hnN : n = N
  · subst hnN
    have HOL := Lib.hid hol
    have HR := Lib.hid hr
    have HE : Hid (∀ j, j < 0 → ((j : Nat) : Int) ∈ o) := fun j hj => absurd hj (by omega)
    have CI : ∀ (k : Nat) (r : Bool), decide ((k : Int) ∈ o) = r → ∀ W : World, W = w → Hid (Calls Try.prog 63 #[.slice A n c, .int .i64 (k : Nat)] W fun e w' => e = .returned (.bool r) ∧ W = w') := fun k r h W e => by
      subst e; exact in_any A n c o (k : Nat) r W ho hn h
    have HCI := Lib.hid CI
    clear hol hr CI ho
    go_enter Try.func37, Try.ntmps37
    go_wp2
    go_loop [5] (fun i => ∃ k : Nat, k ≤ n ∧ i = .int .i64 k ∧ Hid (∀ j, j < k → ((j : Nat) : Int) ∈ o)) (fun i => n - (intOf i).toNat)
    case atStart => exact ⟨0, by omega, rfl, HE⟩
    case round =>
      obtain ⟨k, hk, rfl, hall⟩ := hrel
      have hk0 : (0 : Int) ≤ (k : Int) := Int.natCast_nonneg _
      by_cases hlt : k < n
      · have hk1 : (k : Int) < (n : Int) := by omega
        by_cases he : (k : Int) ∈ o
        · have C := Lib.hid (HCI.out k true (by simp [he]) w rfl)
          have hall' : Hid (∀ j, j < k + 1 → ((j : Nat) : Int) ∈ o) := fun j hj => by
            by_cases e : j = k
            · subst e; exact he
            · exact hall.out j (by omega)
          clear he
          go_wp2_with (go_at_call 63; ((with_reducible refine (C.out).out.mono ?_); rintro e w1 ⟨rfl, rfl⟩))
          go_round
          case rel => exact ⟨k + 1, by omega, by go_num, hall'⟩
          case measure => simp [intOf]; omega
        · have C := Lib.hid (HCI.out k false (by simp [he]) w rfl)
          have hrf : r = false := by
            cases hrr : r with
            | false => rfl
            | true => exact absurd ((HR.out.1 hrr).all hlt) he
          subst hrf
          clear he
          go_wp2_with (go_at_call 63; ((with_reducible refine (C.out).out.mono ?_); rintro e w1 ⟨rfl, rfl⟩))
          go_ret
          exact ⟨rfl, rfl⟩
      · obtain rfl : n = k := by omega
        have hrt : r = true := HR.out.2 (isOrd_of_all HOL.out fun i hi => hall.out i hi)
        subst hrt
        clear hlt hk
        go_wp2
        go_ret
        exact ⟨rfl, rfl⟩
  · have hne : ((n : Int) != (N : Int)) = true := by simp only [bne_iff_ne, ne_eq]; omega
    have hrf : r = false := by
      cases hrr : r with
      | false => rfl
      | true => exact absurd (by rw [← hol]; exact (hr.1 hrr).1) hnN
    subst hrf
    clear hr hnN ho hol
    go_enter Try.func37, Try.ntmps37
    go_wp2
    go_ret
    exact ⟨rfl, rfl⟩

end Go.Proofs.Ytcllnoigppkjiaa
