/- Walks of the small functions on half-edges. -/
import Derived.Test.YtcllnoigppkjiaaMem
namespace Go.Proofs.Ytcllnoigppkjiaa
open Go.RowKit

def turnI (h k : Int) : Int := if h < 0 then -1 else h - h % 4 + (h % 4 + k.tmod 4 + 4) % 4
def outB (signs : List Int) (h : Nat) : Bool :=
  if h % 4 = 1 then signs.getD (h / 4) 0 == 1 else if h % 4 = 2 then true else if h % 4 = 3 then signs.getD (h / 4) 0 == -1 else false

theorem tmod4 (k : Int) : -4 < k.tmod 4 ∧ k.tmod 4 < 4 := by
  have := Int.tmod_lt_of_pos k (b := 4) (by omega)
  have := Int.lt_tmod_of_pos k (b := 4) (by omega)
  omega

theorem tmod_small (a : Int) (h1 : -4 < a) (h2 : a < 0) : a.tmod 4 = a := by
  have : a = -1 ∨ a = -2 ∨ a = -3 := by omega
  rcases this with rfl | rfl | rfl <;> rfl

set_option maxHeartbeats 400000 in
theorem turn_any (h k : Int) (w : World) (hlo : -9223372036854775808 ≤ h) (hhi : h ≤ 9223372036854775807) (_klo : -9223372036854775808 ≤ k) (_khi : k ≤ 9223372036854775807) :
    Calls Try.prog 19 #[.int .i64 h, .int .i64 k] w fun e w' => e = .returned (.int .i64 (turnI h k)) ∧ w = w' := by
  obtain ⟨ht1, ht2⟩ := tmod4 k
  by_cases hn : h < 0
  · go_enter Try.func19, Try.ntmps19
    go_wp2
    go_ret
    exact ⟨ret_int (by simp [turnI, hn]), rfl⟩
  · have hn' : 0 ≤ h := by omega
    go_enter Try.func19, Try.ntmps19
    go_wp2
    go_ret
    exact ⟨ret_int (by rw [turnI, if_neg (by omega)]; omega), rfl⟩

set_option maxHeartbeats 400000 in
theorem rturn_any (h k : Int) (w : World) (hlo : -9223372036854775808 ≤ h) (hhi : h ≤ 9223372036854775807) (_klo : -9223372036854775808 ≤ k) (_khi : k ≤ 9223372036854775807) :
    Calls Try.prog 20 #[.int .i64 h, .int .i64 k] w fun e w' => e = .returned (.int .i64 (turnI h k)) ∧ w = w' := by
  obtain ⟨ht1, ht2⟩ := tmod4 k
  by_cases hn : h < 0
  · go_enter Try.func20, Try.ntmps20
    go_wp2
    go_ret
    exact ⟨ret_int (by simp [turnI, hn]), rfl⟩
  · have hn' : 0 ≤ h := by omega
    by_cases hp : 0 ≤ h % 4 + k.tmod 4
    · go_enter Try.func20, Try.ntmps20
      go_wp2
      go_ret
      exact ⟨ret_int (by rw [turnI, if_neg (by omega)]; omega), rfl⟩
    · have ht : (h % 4 + k.tmod 4).tmod 4 = h % 4 + k.tmod 4 := tmod_small _ (by omega) (by omega)
      go_enter Try.func20, Try.ntmps20
      go_wp2
      go_ret
      exact ⟨ret_int (by rw [turnI, if_neg (by omega)]; omega), rfl⟩

set_option maxHeartbeats 400000 in
theorem opposite_any (h : Int) (w : World) (hlo : -9223372036854775808 ≤ h) (hhi : h ≤ 9223372036854775807) :
    Calls Try.prog 21 #[.int .i64 h] w fun e w' => e = .returned (.int .i64 (turnI h 2)) ∧ w = w' := by
  go_enter Try.func21, Try.ntmps21
  go_wp2_with (go_at_call 19; refine (turn_any _ _ _ (by omega) (by omega) (by omega) (by omega)).mono ?_; rintro e w' ⟨rfl, rfl⟩)
  go_ret
  exact ⟨rfl, rfl⟩

theorem mod4_cases (h : Nat) : h % 4 = 0 ∨ h % 4 = 1 ∨ h % 4 = 2 ∨ h % 4 = 3 := by omega

set_option maxHeartbeats 800000 in
theorem outgoing_any (A B : Option Addr) (ns cs nm cm : Nat) (lp : Int) (signs : List Int) (h : Nat) (w : World) (hs : RI w A ns signs) (hh : h / 4 < ns) (hns : ns ≤ 1000000) :
    Calls Try.prog 50 #[dval A ns cs B nm cm lp, .int .i64 h] w fun e w' => e = .returned (.bool (outB signs h)) ∧ Below w.heap.size w w' := by
  obtain ⟨b, off, rfl, hb, hc⟩ := hs.2 (by omega)
  have hcell : (w.alloc (.cells #[.slice (some ⟨b, off, none⟩) ns cs, .slice B nm cm, .int .i64 lp] 24)).cell? ⟨b, off + h / 4, none⟩ = some (.int .i64 (signs.getD (h / 4) 0)) := by
    rw [World.cell?_alloc_past _ _ _ hb]; exact hc _ hh
  generalize hx : signs.getD (h / 4) 0 = x at hcell
  clear hs hc
  rcases mod4_cases h with h4 | h4 | h4 | h4
  · have h4' : (h : Int) % 4 = 0 := by omega
    have e : outB signs h = false := by simp [outB, h4]
    rw [e]; clear e h4 hx
    go_enter Try.func50, Try.ntmps50
    go_wp2
    go_ret
    exact ⟨rfl, below_alloc _ _⟩
  · have h4' : (h : Int) % 4 = 1 := by omega
    have e : outB signs h = (x == 1) := by simp only [outB, h4, hx]; rfl
    rw [e]; clear e h4 hx
    go_enter Try.func50, Try.ntmps50
    go_wp2
    go_ret
    exact ⟨rfl, below_alloc _ _⟩
  · have h4' : (h : Int) % 4 = 2 := by omega
    have e : outB signs h = true := by simp [outB, h4]
    rw [e]; clear e h4 hx
    go_enter Try.func50, Try.ntmps50
    go_wp2
    go_ret
    exact ⟨rfl, below_alloc _ _⟩
  · have h4' : (h : Int) % 4 = 3 := by omega
    have e : outB signs h = (x == -1) := by simp only [outB, h4, hx]; rfl
    rw [e]; clear e h4 hx
    go_enter Try.func50, Try.ntmps50
    go_wp2
    go_ret
    exact ⟨rfl, below_alloc _ _⟩

end Go.Proofs.Ytcllnoigppkjiaa
