/- Walks: limits, signs, half-edges, the next half-edge of a face or a strand. -/
import Derived.Test.YtcllnoigppkjiaaTurn
namespace Go.Proofs.Ytcllnoigppkjiaa
open Go.RowKit

set_option maxHeartbeats 800000 in
theorem rout_any (A : Option Addr) (ns cs : Nat) (signs : List Int) (h : Nat) (w : World) (hs : RI w A ns signs) (hh : h / 4 < ns) (hns : ns ≤ 1000000) :
    Calls Try.prog 23 #[.slice A ns cs, .int .i64 h] w fun e w' => e = .returned (.bool (outB signs h)) ∧ w = w' := by
  obtain ⟨b, off, rfl, hb, hc⟩ := hs.2 (by omega)
  have hcell : w.cell? ⟨b, off + h / 4, none⟩ = some (.int .i64 (signs.getD (h / 4) 0)) := hc _ hh
  generalize hx : signs.getD (h / 4) 0 = x at hcell
  clear hs hc
  rcases mod4_cases h with h4 | h4 | h4 | h4
  · have h4' : (h : Int) % 4 = 0 := by omega
    have e : outB signs h = false := by simp [outB, h4]
    rw [e]; clear e h4 hx
    go_enter Try.func23, Try.ntmps23
    go_wp2
    go_ret
    exact ⟨rfl, rfl⟩
  · have h4' : (h : Int) % 4 = 1 := by omega
    have e : outB signs h = (x == 1) := by simp only [outB, h4, hx]; rfl
    rw [e]; clear e h4 hx
    go_enter Try.func23, Try.ntmps23
    go_wp2
    go_ret
    exact ⟨rfl, rfl⟩
  · have h4' : (h : Int) % 4 = 2 := by omega
    have e : outB signs h = true := by simp [outB, h4]
    rw [e]; clear e h4 hx
    go_enter Try.func23, Try.ntmps23
    go_wp2
    go_ret
    exact ⟨rfl, rfl⟩
  · have h4' : (h : Int) % 4 = 3 := by omega
    have e : outB signs h = (x == -1) := by simp only [outB, h4, hx]; rfl
    rw [e]; clear e h4 hx
    go_enter Try.func23, Try.ntmps23
    go_wp2
    go_ret
    exact ⟨rfl, rfl⟩

set_option maxHeartbeats 400000 in
theorem ishalf_any (A B : Option Addr) (ns cs nm cm : Nat) (lp h : Int) (w : World) (hlo : -9223372036854775808 ≤ h) (hhi : h ≤ 9223372036854775807) (_hnm : nm ≤ 1000000000000000) :
    Calls Try.prog 49 #[dval A ns cs B nm cm lp, .int .i64 h] w fun e w' => e = .returned (.bool (decide (0 ≤ h ∧ h < nm))) ∧ Below w.heap.size w w' := by
  by_cases h0 : 0 ≤ h
  · by_cases h1 : h < nm
    · have e : decide (0 ≤ h ∧ h < nm) = true := by simp [h0, h1]
      rw [e]; clear e
      go_enter Try.func49, Try.ntmps49
      go_wp2
      go_ret
      exact ⟨rfl, below_alloc _ _⟩
    · have e : decide (0 ≤ h ∧ h < nm) = false := by simp; omega
      rw [e]; clear e
      have h1' : (nm : Int) ≤ h := by omega
      go_enter Try.func49, Try.ntmps49
      go_wp2
      go_ret
      exact ⟨rfl, below_alloc _ _⟩
  · have e : decide (0 ≤ h ∧ h < nm) = false := by simp; omega
    rw [e]; clear e
    have h1' : h < 0 := by omega
    go_enter Try.func49, Try.ntmps49
    go_wp2
    go_ret
    exact ⟨rfl, below_alloc _ _⟩

/-- The mate of a half-edge. -/
def mt (mate : List Int) (h : Nat) : Int := mate.getD h 0

set_option maxHeartbeats 400000 in
theorem nextface_any (A B : Option Addr) (ns cs nm cm : Nat) (lp : Int) (mate : List Int) (h : Nat) (w : World) (hs : RI w B nm mate) (hh : h < nm) (hlo : -9223372036854775808 ≤ mt mate h) (hhi : mt mate h ≤ 9223372036854775807) (hnm : nm ≤ 1000000000000000) :
    Calls Try.prog 53 #[dval A ns cs B nm cm lp, .int .i64 h] w fun e w' => e = .returned (.int .i64 (turnI (mt mate h) (-1))) ∧ Below w.heap.size w w' := by
  obtain ⟨b, off, rfl, hb, hc⟩ := hs.2 (by omega)
  have hcell : (w.alloc (.cells #[.slice A ns cs, .slice (some ⟨b, off, none⟩) nm cm, .int .i64 lp] 24)).cell? ⟨b, off + h, none⟩ = some (.int .i64 (mt mate h)) := by
    rw [World.cell?_alloc_past _ _ _ hb]; exact hc _ hh
  generalize mt mate h = x at hcell hlo hhi
  clear hs hc
  go_enter Try.func53, Try.ntmps53
  go_wp2_with (go_at_call 19; refine (turn_any _ _ _ (by omega) (by omega) (by omega) (by omega)).mono ?_; rintro e w' ⟨rfl, rfl⟩)
  go_ret
  exact ⟨rfl, below_alloc _ _⟩

set_option maxHeartbeats 400000 in
theorem nextstrand_any (A B : Option Addr) (ns cs nm cm : Nat) (lp : Int) (mate : List Int) (h : Nat) (w : World) (hs : RI w B nm mate) (hh : h < nm) (hlo : -9223372036854775808 ≤ mt mate h) (hhi : mt mate h ≤ 9223372036854775807) (hnm : nm ≤ 1000000000000000) :
    Calls Try.prog 60 #[dval A ns cs B nm cm lp, .int .i64 h] w fun e w' => e = .returned (.int .i64 (turnI (mt mate h) 2)) ∧ Below w.heap.size w w' := by
  obtain ⟨b, off, rfl, hb, hc⟩ := hs.2 (by omega)
  have hcell : (w.alloc (.cells #[.slice A ns cs, .slice (some ⟨b, off, none⟩) nm cm, .int .i64 lp] 24)).cell? ⟨b, off + h, none⟩ = some (.int .i64 (mt mate h)) := by
    rw [World.cell?_alloc_past _ _ _ hb]; exact hc _ hh
  generalize mt mate h = x at hcell hlo hhi
  clear hs hc
  go_enter Try.func60, Try.ntmps60
  go_wp2_with (go_at_call 21; refine (opposite_any _ _ (by omega) (by omega)).mono ?_; rintro e w' ⟨rfl, rfl⟩)
  go_ret
  exact ⟨rfl, below_alloc _ _⟩

def limB (ns nm : Nat) (lp : Int) : Bool := decide (ns ≤ 64) && decide (nm = 4 * ns) && decide (0 ≤ lp) && decide (lp ≤ 64)
set_option maxHeartbeats 800000 in
theorem limits_any (A B : Option Addr) (ns cs nm cm : Nat) (lp : Int) (w : World) (hns : ns ≤ 1000000000000000) (hnm : nm ≤ 1000000000000000) :
    Calls Try.prog 44 #[dval A ns cs B nm cm lp] w fun e w' => e = .returned (.bool (limB ns nm lp)) ∧ Below w.heap.size w w' := by
  by_cases h1 : ns ≤ 64
  · by_cases h2 : nm = 4 * ns
    · subst h2
      by_cases h3 : 0 ≤ lp
      · by_cases h4 : lp ≤ 64
        · have e : limB ns (4 * ns) lp = true := by simp [limB, *]
          rw [e]; clear e
          go_enter Try.func44, Try.ntmps44
          go_wp2
          go_ret
          exact ⟨rfl, below_alloc _ _⟩
        · have e : limB ns (4 * ns) lp = false := by simp [limB, *]
          rw [e]; clear e
          have h4' : 64 < lp := by omega
          go_enter Try.func44, Try.ntmps44
          go_wp2
          go_ret
          exact ⟨rfl, below_alloc _ _⟩
      · have e : limB ns (4 * ns) lp = false := by simp [limB, *]
        rw [e]; clear e
        have h4' : lp < 0 := by omega
        go_enter Try.func44, Try.ntmps44
        go_wp2
        go_ret
        exact ⟨rfl, below_alloc _ _⟩
    · have e : limB ns nm lp = false := by simp [limB, *]
      rw [e]; clear e
      have h4 : ((nm : Int) == 4 * (ns : Int)) = false := by simp; omega
      go_enter Try.func44, Try.ntmps44
      go_wp2
      go_ret
      exact ⟨rfl, below_alloc _ _⟩
  · have e : limB ns nm lp = false := by simp [limB, *]
    rw [e]; clear e
    have h4' : 64 < ns := by omega
    go_enter Try.func44, Try.ntmps44
    go_wp2
    go_ret
    exact ⟨rfl, below_alloc _ _⟩

/-- Is a number a sign? -/
def sgB (x : Int) : Bool := x == 1 || x == -1
set_option maxHeartbeats 400000 in
theorem badsign_any (x : Int) (w : World) :
    Calls Try.prog 65 #[.int .i64 x] w fun e w' => e = .returned (.bool (!sgB x)) ∧ w = w' := by
  by_cases h1 : x = 1
  · subst h1
    go_enter Try.func65, Try.ntmps65
    go_wp2
    go_ret
    exact ⟨rfl, rfl⟩
  · have e1 : (x != 1) = true := by simp [h1]
    have e2 : (!sgB x) = (x != -1) := by simp [sgB, h1, bne]
    rw [e2]; clear e2 h1
    go_enter Try.func65, Try.ntmps65
    go_wp2
    go_ret
    exact ⟨rfl, rfl⟩

def sgnsB (signs : List Int) : Bool := signs.all sgB

end Go.Proofs.Ytcllnoigppkjiaa
