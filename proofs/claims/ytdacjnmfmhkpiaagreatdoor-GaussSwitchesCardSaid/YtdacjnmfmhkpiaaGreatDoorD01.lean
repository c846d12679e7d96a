import Derived.Test.YtdacjnmfmhkpiaaGreatDoorRows
import Derived.WalkKit
import Derived.WalkSpells
import Derived.WalkLawsBesides
import Derived.IntWalk
import Derived.Lib.Hide
import Derived.Deep.QuietTactic
import Derived.BigQuiet
import Derived.Deep.RegionHeld3
import Derived.Deep.DeepCutAuto
import Derived.StillTailTactics
/- Words for memory: a slice of ints that reads as a list. -/
namespace Go.Proofs.YtdacjnmfmhkpiaaGreatDoor
open Go.RowKit

theorem ret_int {k : IntKind} {a b : Int} (h : a = b) : Ending.returned (.int k a) = .returned (.int k b) := by rw [h]
theorem ret_bool {a b : Bool} (h : a = b) : Ending.returned (.bool a) = .returned (.bool b) := by rw [h]

/-- The slice value 'slice A n _' reads as the list xs of ints. -/
def RI (w : World) (A : Option Addr) (n : Nat) (xs : List Int) : Prop :=
  xs.length = n ∧ (0 < n → ∃ b off, A = some ⟨b, off, none⟩ ∧ b < w.heap.size ∧ ∀ j, j < n → w.cell? ⟨b, off + j, none⟩ = some (.int .i64 (xs.getD j 0)))

theorem RI.keep {w w' : World} {A : Option Addr} {n : Nat} {xs : List Int} (h : RI w A n xs) (hb : Below w.heap.size w w') : RI w' A n xs :=
  ⟨h.1, fun hn => by
    obtain ⟨b, off, e, hlt, hc⟩ := h.2 hn
    exact ⟨b, off, e, Nat.lt_of_lt_of_le hlt hb.size, fun j hj => (hb.cell (p := ⟨b, off + j, none⟩) hlt).trans (hc j hj)⟩⟩
theorem below_alloc (w : World) (o : Obj) : Below w.heap.size w (w.alloc o) := (Below.refl _ _).alloc (Nat.le_refl _) o
theorem below_step {w w1 w2 : World} (h : Below w.heap.size w w1) (k : Below w1.heap.size w1 w2) : Below w.heap.size w w2 := h.trans (k.mono h.size)
theorem RI.nil (w : World) (A : Option Addr) : RI w A 0 [] := ⟨rfl, fun h => absurd h (by omega)⟩
theorem RI.alloc {w : World} {A : Option Addr} {n : Nat} {xs : List Int} (h : RI w A n xs) (o : Obj) : RI (w.alloc o) A n xs := h.keep (below_alloc w o)
theorem RI.drew {w : World} {A : Option Addr} {n : Nat} {xs : List Int} (h : RI w A n xs) : RI w.drew A n xs := h
theorem RI.drewN {w : World} {A : Option Addr} {n : Nat} {xs : List Int} (h : RI w A n xs) (k : Nat) : RI (w.drewN k) A n xs := h

/-- A diagram's value. -/
abbrev dval (A : Option Addr) (ns cs : Nat) (B : Option Addr) (nm cm : Nat) (lp : Int) : Value := .agg #[.slice A ns cs, .slice B nm cm, .int .i64 lp]

end Go.Proofs.YtdacjnmfmhkpiaaGreatDoor

/- Walks of the small functions on half-edges. -/
namespace Go.Proofs.YtdacjnmfmhkpiaaGreatDoor
open Go.RowKit

def turnI (h k : Int) : Int := if h < 0 then -1 else h - h % 4 + (h % 4 + k.tmod 4 + 4) % 4
def outB (signs : List Int) (h : Nat) : Bool :=
  if h % 4 = 1 then signs.getD (h / 4) 0 == 1 else if h % 4 = 2 then true else if h % 4 = 3 then signs.getD (h / 4) 0 == -1 else false

theorem tmod4 (k : Int) : -4 < k.tmod 4 ∧ k.tmod 4 < 4 := by
  have := Int.tmod_lt_of_pos k (b := 4) (by omega)
  have := Int.lt_tmod_of_pos k (b := 4) (by omega)
  omega

theorem tmod_small (a : Int) (h1 : -4 < a) (h2 : a < 0) : a.tmod 4 = a := by
  have : a = -1 ∨ a = -2 ∨ a = -3 := by omega
  rcases this with rfl | rfl | rfl <;> rfl

set_option maxHeartbeats 400000 in
theorem turn_any (h k : Int) (w : World) (hlo : -9223372036854775808 ≤ h) (hhi : h ≤ 9223372036854775807) (_klo : -9223372036854775808 ≤ k) (_khi : k ≤ 9223372036854775807) :
    Calls Tryz.prog 94 #[.int .i64 h, .int .i64 k] w fun e w' => e = .returned (.int .i64 (turnI h k)) ∧ w = w' := by
  obtain ⟨ht1, ht2⟩ := tmod4 k
  by_cases hn : h < 0
  · go_enter Tryz.func94, Tryz.ntmps94
    go_wp2
    go_ret
    exact ⟨ret_int (by simp [turnI, hn]), rfl⟩
  · have hn' : 0 ≤ h := by omega
    go_enter Tryz.func94, Tryz.ntmps94
    go_wp2
    go_ret
    exact ⟨ret_int (by rw [turnI, if_neg (by omega)]; omega), rfl⟩

set_option maxHeartbeats 400000 in
theorem rturn_any (h k : Int) (w : World) (hlo : -9223372036854775808 ≤ h) (hhi : h ≤ 9223372036854775807) (_klo : -9223372036854775808 ≤ k) (_khi : k ≤ 9223372036854775807) :
    Calls Tryz.prog 91 #[.int .i64 h, .int .i64 k] w fun e w' => e = .returned (.int .i64 (turnI h k)) ∧ w = w' := by
  obtain ⟨ht1, ht2⟩ := tmod4 k
  by_cases hn : h < 0
  · go_enter Tryz.func91, Tryz.ntmps91
    go_wp2
    go_ret
    exact ⟨ret_int (by simp [turnI, hn]), rfl⟩
  · have hn' : 0 ≤ h := by omega
    by_cases hp : 0 ≤ h % 4 + k.tmod 4
    · go_enter Tryz.func91, Tryz.ntmps91
      go_wp2
      go_ret
      exact ⟨ret_int (by rw [turnI, if_neg (by omega)]; omega), rfl⟩
    · have ht : (h % 4 + k.tmod 4).tmod 4 = h % 4 + k.tmod 4 := tmod_small _ (by omega) (by omega)
      go_enter Tryz.func91, Tryz.ntmps91
      go_wp2
      go_ret
      exact ⟨ret_int (by rw [turnI, if_neg (by omega)]; omega), rfl⟩

set_option maxHeartbeats 400000 in
theorem opposite_any (h : Int) (w : World) (hlo : -9223372036854775808 ≤ h) (hhi : h ≤ 9223372036854775807) :
    Calls Tryz.prog 90 #[.int .i64 h] w fun e w' => e = .returned (.int .i64 (turnI h 2)) ∧ w = w' := by
  go_enter Tryz.func90, Tryz.ntmps90
  go_wp2_with (go_at_call 94; refine (turn_any _ _ _ (by omega) (by omega) (by omega) (by omega)).mono ?_; rintro e w' ⟨rfl, rfl⟩)
  go_ret
  exact ⟨rfl, rfl⟩

theorem mod4_cases (h : Nat) : h % 4 = 0 ∨ h % 4 = 1 ∨ h % 4 = 2 ∨ h % 4 = 3 := by omega

set_option maxHeartbeats 800000 in
theorem outgoing_any (A B : Option Addr) (ns cs nm cm : Nat) (lp : Int) (signs : List Int) (h : Nat) (w : World) (hs : RI w A ns signs) (hh : h / 4 < ns) (hns : ns ≤ 1000000) :
    Calls Tryz.prog 64 #[dval A ns cs B nm cm lp, .int .i64 h] w fun e w' => e = .returned (.bool (outB signs h)) ∧ Below w.heap.size w w' := by
  obtain ⟨b, off, rfl, hb, hc⟩ := hs.2 (by omega)
  have hcell : (w.alloc (.cells #[.slice (some ⟨b, off, none⟩) ns cs, .slice B nm cm, .int .i64 lp] 24)).cell? ⟨b, off + h / 4, none⟩ = some (.int .i64 (signs.getD (h / 4) 0)) := by
    rw [World.cell?_alloc_past _ _ _ hb]; exact hc _ hh
  generalize hx : signs.getD (h / 4) 0 = x at hcell
  clear hs hc
  rcases mod4_cases h with h4 | h4 | h4 | h4
  · have h4' : (h : Int) % 4 = 0 := by omega
    have e : outB signs h = false := by simp [outB, h4]
    rw [e]; clear e h4 hx
    go_enter Tryz.func64, Tryz.ntmps64
    go_wp2
    go_ret
    exact ⟨rfl, below_alloc _ _⟩
  · have h4' : (h : Int) % 4 = 1 := by omega
    have e : outB signs h = (x == 1) := by simp only [outB, h4, hx]; rfl
    rw [e]; clear e h4 hx
    go_enter Tryz.func64, Tryz.ntmps64
    go_wp2
    go_ret
    exact ⟨rfl, below_alloc _ _⟩
  · have h4' : (h : Int) % 4 = 2 := by omega
    have e : outB signs h = true := by simp [outB, h4]
    rw [e]; clear e h4 hx
    go_enter Tryz.func64, Tryz.ntmps64
    go_wp2
    go_ret
    exact ⟨rfl, below_alloc _ _⟩
  · have h4' : (h : Int) % 4 = 3 := by omega
    have e : outB signs h = (x == -1) := by simp only [outB, h4, hx]; rfl
    rw [e]; clear e h4 hx
    go_enter Tryz.func64, Tryz.ntmps64
    go_wp2
    go_ret
    exact ⟨rfl, below_alloc _ _⟩

end Go.Proofs.YtdacjnmfmhkpiaaGreatDoor

/- Walks: limits, signs, half-edges, the next half-edge of a face or a strand. -/
namespace Go.Proofs.YtdacjnmfmhkpiaaGreatDoor
open Go.RowKit

set_option maxHeartbeats 800000 in
theorem rout_any (A : Option Addr) (ns cs : Nat) (signs : List Int) (h : Nat) (w : World) (hs : RI w A ns signs) (hh : h / 4 < ns) (hns : ns ≤ 1000000) :
    Calls Tryz.prog 37 #[.slice A ns cs, .int .i64 h] w fun e w' => e = .returned (.bool (outB signs h)) ∧ w = w' := by
  obtain ⟨b, off, rfl, hb, hc⟩ := hs.2 (by omega)
  have hcell : w.cell? ⟨b, off + h / 4, none⟩ = some (.int .i64 (signs.getD (h / 4) 0)) := hc _ hh
  generalize hx : signs.getD (h / 4) 0 = x at hcell
  clear hs hc
  rcases mod4_cases h with h4 | h4 | h4 | h4
  · have h4' : (h : Int) % 4 = 0 := by omega
    have e : outB signs h = false := by simp [outB, h4]
    rw [e]; clear e h4 hx
    go_enter Tryz.func37, Tryz.ntmps37
    go_wp2
    go_ret
    exact ⟨rfl, rfl⟩
  · have h4' : (h : Int) % 4 = 1 := by omega
    have e : outB signs h = (x == 1) := by simp only [outB, h4, hx]; rfl
    rw [e]; clear e h4 hx
    go_enter Tryz.func37, Tryz.ntmps37
    go_wp2
    go_ret
    exact ⟨rfl, rfl⟩
  · have h4' : (h : Int) % 4 = 2 := by omega
    have e : outB signs h = true := by simp [outB, h4]
    rw [e]; clear e h4 hx
    go_enter Tryz.func37, Tryz.ntmps37
    go_wp2
    go_ret
    exact ⟨rfl, rfl⟩
  · have h4' : (h : Int) % 4 = 3 := by omega
    have e : outB signs h = (x == -1) := by simp only [outB, h4, hx]; rfl
    rw [e]; clear e h4 hx
    go_enter Tryz.func37, Tryz.ntmps37
    go_wp2
    go_ret
    exact ⟨rfl, rfl⟩

/-- The mate of a half-edge. -/
def mt (mate : List Int) (h : Nat) : Int := mate.getD h 0

set_option maxHeartbeats 400000 in
theorem nextface_any (A B : Option Addr) (ns cs nm cm : Nat) (lp : Int) (mate : List Int) (h : Nat) (w : World) (hs : RI w B nm mate) (hh : h < nm) (hlo : -9223372036854775808 ≤ mt mate h) (hhi : mt mate h ≤ 9223372036854775807) (hnm : nm ≤ 1000000000000000) :
    Calls Tryz.prog 73 #[dval A ns cs B nm cm lp, .int .i64 h] w fun e w' => e = .returned (.int .i64 (turnI (mt mate h) (-1))) ∧ Below w.heap.size w w' := by
  obtain ⟨b, off, rfl, hb, hc⟩ := hs.2 (by omega)
  have hcell : (w.alloc (.cells #[.slice A ns cs, .slice (some ⟨b, off, none⟩) nm cm, .int .i64 lp] 24)).cell? ⟨b, off + h, none⟩ = some (.int .i64 (mt mate h)) := by
    rw [World.cell?_alloc_past _ _ _ hb]; exact hc _ hh
  generalize mt mate h = x at hcell hlo hhi
  clear hs hc
  go_enter Tryz.func73, Tryz.ntmps73
  go_wp2_with (go_at_call 94; refine (turn_any _ _ _ (by omega) (by omega) (by omega) (by omega)).mono ?_; rintro e w' ⟨rfl, rfl⟩)
  go_ret
  exact ⟨rfl, below_alloc _ _⟩

set_option maxHeartbeats 400000 in
theorem nextstrand_any (A B : Option Addr) (ns cs nm cm : Nat) (lp : Int) (mate : List Int) (h : Nat) (w : World) (hs : RI w B nm mate) (hh : h < nm) (hlo : -9223372036854775808 ≤ mt mate h) (hhi : mt mate h ≤ 9223372036854775807) (hnm : nm ≤ 1000000000000000) :
    Calls Tryz.prog 67 #[dval A ns cs B nm cm lp, .int .i64 h] w fun e w' => e = .returned (.int .i64 (turnI (mt mate h) 2)) ∧ Below w.heap.size w w' := by
  obtain ⟨b, off, rfl, hb, hc⟩ := hs.2 (by omega)
  have hcell : (w.alloc (.cells #[.slice A ns cs, .slice (some ⟨b, off, none⟩) nm cm, .int .i64 lp] 24)).cell? ⟨b, off + h, none⟩ = some (.int .i64 (mt mate h)) := by
    rw [World.cell?_alloc_past _ _ _ hb]; exact hc _ hh
  generalize mt mate h = x at hcell hlo hhi
  clear hs hc
  go_enter Tryz.func67, Tryz.ntmps67
  go_wp2_with (go_at_call 90; refine (opposite_any _ _ (by omega) (by omega)).mono ?_; rintro e w' ⟨rfl, rfl⟩)
  go_ret
  exact ⟨rfl, below_alloc _ _⟩

def limB (ns nm : Nat) (lp : Int) : Bool := decide (ns ≤ 64) && decide (nm = 4 * ns) && decide (0 ≤ lp) && decide (lp ≤ 64)
set_option maxHeartbeats 800000 in
theorem limits_any (A B : Option Addr) (ns cs nm cm : Nat) (lp : Int) (w : World) (hns : ns ≤ 1000000000000000) (hnm : nm ≤ 1000000000000000) :
    Calls Tryz.prog 42 #[dval A ns cs B nm cm lp] w fun e w' => e = .returned (.bool (limB ns nm lp)) ∧ Below w.heap.size w w' := by
  by_cases h1 : ns ≤ 64
  · by_cases h2 : nm = 4 * ns
    · subst h2
      by_cases h3 : 0 ≤ lp
      · by_cases h4 : lp ≤ 64
        · have e : limB ns (4 * ns) lp = true := by simp [limB, *]
          rw [e]; clear e
          go_enter Tryz.func42, Tryz.ntmps42
          go_wp2
          go_ret
          exact ⟨rfl, below_alloc _ _⟩
        · have e : limB ns (4 * ns) lp = false := by simp [limB, *]
          rw [e]; clear e
          have h4' : 64 < lp := by omega
          go_enter Tryz.func42, Tryz.ntmps42
          go_wp2
          go_ret
          exact ⟨rfl, below_alloc _ _⟩
      · have e : limB ns (4 * ns) lp = false := by simp [limB, *]
        rw [e]; clear e
        have h4' : lp < 0 := by omega
        go_enter Tryz.func42, Tryz.ntmps42
        go_wp2
        go_ret
        exact ⟨rfl, below_alloc _ _⟩
    · have e : limB ns nm lp = false := by simp [limB, *]
      rw [e]; clear e
      have h4 : ((nm : Int) == 4 * (ns : Int)) = false := by simp; omega
      go_enter Tryz.func42, Tryz.ntmps42
      go_wp2
      go_ret
      exact ⟨rfl, below_alloc _ _⟩
  · have e : limB ns nm lp = false := by simp [limB, *]
    rw [e]; clear e
    have h4' : 64 < ns := by omega
    go_enter Tryz.func42, Tryz.ntmps42
    go_wp2
    go_ret
    exact ⟨rfl, below_alloc _ _⟩

/-- Is a number a sign? -/
def sgB (x : Int) : Bool := x == 1 || x == -1
set_option maxHeartbeats 400000 in
theorem badsign_any (x : Int) (w : World) :
    Calls Tryz.prog 71 #[.int .i64 x] w fun e w' => e = .returned (.bool (!sgB x)) ∧ w = w' := by
  by_cases h1 : x = 1
  · subst h1
    go_enter Tryz.func71, Tryz.ntmps71
    go_wp2
    go_ret
    exact ⟨rfl, rfl⟩
  · have e1 : (x != 1) = true := by simp [h1]
    have e2 : (!sgB x) = (x != -1) := by simp [sgB, h1, bne]
    rw [e2]; clear e2 h1
    go_enter Tryz.func71, Tryz.ntmps71
    go_wp2
    go_ret
    exact ⟨rfl, rfl⟩

def sgnsB (signs : List Int) : Bool := signs.all sgB

end Go.Proofs.YtdacjnmfmhkpiaaGreatDoor

/- Walks: signsValid, matesPaired. -/
namespace Go.Proofs.YtdacjnmfmhkpiaaGreatDoor
open Go.RowKit

set_option maxHeartbeats 800000 in
theorem index_all (A : Option Addr) (n c : Nat) (xs : List Int) (w : World) (hs : RI w A n xs) (hn : n ≤ 1000000000000000) (hg : ∀ j, j < n → sgB (xs.getD j 0) = true) :
    Calls Tryz.prog 92 #[.slice A n c, .func (.func 71) #[] #[]] w fun e w' => e = .returned (.int .i64 (-1)) ∧ w = w' := by
  by_cases hn0 : n = 0
  · subst hn0
    clear hs hg
    go_enter Tryz.func92, Tryz.ntmps92
    go_wp2
    go_loop [5, 8] (fun _ i => i = .int .i64 (0 : Nat)) (fun _ _ => 0)
    case atStart => rfl
    case round =>
      obtain rfl := hrel
      go_wp2
      go_ret
      exact ⟨rfl, rfl⟩
  · obtain ⟨b, off, rfl, hb, hc⟩ := hs.2 (by omega)
    clear hs
    go_enter Tryz.func92, Tryz.ntmps92
    go_wp2
    go_loop [5, 8] (fun _ i => ∃ k : Nat, k ≤ n ∧ i = .int .i64 k) (fun _ i => n - (intOf i).toNat)
    case atStart => exact ⟨0, by omega, rfl⟩
    case round =>
      obtain ⟨k, hk, rfl⟩ := hrel
      by_cases hlt : k < n
      · have hcell := hc k hlt
        have hgk := hg k hlt
        clear hc hg
        generalize xs.getD k 0 = x at hcell hgk
        have HG := Lib.hid hgk
        clear hgk
        go_wp2_with (go_at_call 71; refine (badsign_any _ _).mono ?_; rintro e w' ⟨rfl, rfl⟩; rw [HG.out])
        go_round
        case rel => exact ⟨k + 1, by omega, by go_num⟩
        case measure => simp [intOf]; omega
      · clear hc hg
        go_wp2
        go_ret
        exact ⟨rfl, rfl⟩

set_option maxHeartbeats 800000 in
theorem index_bad (A : Option Addr) (n c j0 : Nat) (xs : List Int) (w : World) (hs : RI w A n xs) (hn : n ≤ 1000000000000000) (hj : j0 < n) (hg : ∀ j, j < j0 → sgB (xs.getD j 0) = true) (hbad : sgB (xs.getD j0 0) = false) :
    Calls Tryz.prog 92 #[.slice A n c, .func (.func 71) #[] #[]] w fun e w' => e = .returned (.int .i64 j0) ∧ w = w' := by
  obtain ⟨b, off, rfl, hb, hc⟩ := hs.2 (by omega)
  clear hs
  go_enter Tryz.func92, Tryz.ntmps92
  go_wp2
  go_loop [5, 8] (fun _ i => ∃ k : Nat, k ≤ j0 ∧ i = .int .i64 k) (fun _ i => n - (intOf i).toNat)
  case atStart => exact ⟨0, by omega, rfl⟩
  case round =>
    obtain ⟨k, hk, rfl⟩ := hrel
    have hlt : k < n := by omega
    have hcell := hc k hlt
    by_cases hlt : k < j0
    · have hgk := hg k hlt
      clear hc hg hbad
      generalize xs.getD k 0 = x at hcell hgk
      have HG := Lib.hid hgk
      clear hgk
      go_wp2_with (go_at_call 71; refine (badsign_any _ _).mono ?_; rintro e w' ⟨rfl, rfl⟩; rw [HG.out])
      go_round
      case rel => exact ⟨k + 1, by omega, by go_num⟩
      case measure => simp [intOf]; omega
    · obtain rfl : k = j0 := by omega
      clear hc hg
      generalize xs.getD k 0 = x at hcell hbad
      have HG := Lib.hid hbad
      clear hbad
      go_wp2_with (go_at_call 71; refine (badsign_any _ _).mono ?_; rintro e w' ⟨rfl, rfl⟩; rw [HG.out])
      go_ret
      exact ⟨rfl, rfl⟩

theorem least_bad (p : Nat → Bool) (n : Nat) (h : ¬ ∀ j, j < n → p j = true) : ∃ j0, j0 < n ∧ (∀ j, j < j0 → p j = true) ∧ p j0 = false := by
  induction n with
  | zero => exact absurd (fun j hj => absurd hj (by omega)) h
  | succ n ih =>
    by_cases hn : ∀ j, j < n → p j = true
    · refine ⟨n, by omega, hn, ?_⟩
      cases hp : p n with
      | false => rfl
      | true => exact absurd (fun j hj => by
          by_cases e : j = n
          · subst e; exact hp
          · exact hn j (by omega)) h
    · obtain ⟨j0, h1, h2, h3⟩ := ih hn
      exact ⟨j0, by omega, h2, h3⟩

theorem sgnsB_iff (xs : List Int) : sgnsB xs = true ↔ ∀ j, j < xs.length → sgB (xs.getD j 0) = true := by
  unfold sgnsB
  rw [List.all_eq_true]
  constructor
  · intro h j hj
    have : xs.getD j 0 = xs[j] := by simp [List.getD, hj]
    rw [this]; exact h _ (List.getElem_mem _)
  · intro h x hx
    obtain ⟨j, hj, rfl⟩ := List.mem_iff_getElem.1 hx
    have : xs.getD j 0 = xs[j] := by simp [List.getD, hj]
    rw [← this]; exact h j hj

set_option maxHeartbeats 800000 in
theorem contains_any (A : Option Addr) (n c : Nat) (xs : List Int) (w : World) (hs : RI w A n xs) (hn : n ≤ 1000000000000000) :
    Calls Tryz.prog 70 #[.slice A n c, .func (.func 71) #[] #[]] w fun e w' => e = .returned (.bool (!sgnsB xs)) ∧ w = w' := by
  by_cases hg : ∀ j, j < n → sgB (xs.getD j 0) = true
  · have e : (!sgnsB xs) = false := by
      rw [(sgnsB_iff xs).2 (by rw [hs.1]; exact hg)]; rfl
    rw [e]; clear e
    go_enter Tryz.func70, Tryz.ntmps70
    go_wp2_with (go_at_call 92; refine (index_all _ _ _ xs _ hs hn hg).mono ?_; rintro e w' ⟨rfl, rfl⟩)
    go_ret
    exact ⟨rfl, rfl⟩
  · have e : (!sgnsB xs) = true := by
      cases h : sgnsB xs with
      | false => rfl
      | true => exact absurd (by rw [← hs.1]; exact (sgnsB_iff xs).1 h) hg
    rw [e]; clear e
    obtain ⟨j0, h1, h2, h3⟩ := least_bad (fun j => sgB (xs.getD j 0)) n hg
    clear hg
    have H2 := Lib.hid h2
    have H3 := Lib.hid h3
    clear h2 h3
    go_enter Tryz.func70, Tryz.ntmps70
    go_wp2_with (go_at_call 92; refine (index_bad _ _ _ j0 xs _ hs hn h1 H2.out H3.out).mono ?_; rintro e w' ⟨rfl, rfl⟩)
    go_ret
    exact ⟨rfl, rfl⟩

set_option maxHeartbeats 800000 in
theorem signs_any (A : Option Addr) (n c : Nat) (xs : List Int) (w : World) (hs : RI w A n xs) (hn : n ≤ 1000000000000000) :
    Calls Tryz.prog 43 #[.slice A n c] w fun e w' => e = .returned (.bool (sgnsB xs)) ∧ w = w' := by
  go_enter Tryz.func43, Tryz.ntmps43
  go_wp2_with (go_at_call 70; refine (contains_any _ _ _ xs _ hs hn).mono ?_; rintro e w' ⟨rfl, rfl⟩)
  go_ret
  exact ⟨ret_bool (by simp), rfl⟩

end Go.Proofs.YtdacjnmfmhkpiaaGreatDoor

/- Walk: matesPaired. -/
namespace Go.Proofs.YtdacjnmfmhkpiaaGreatDoor
open Go.RowKit

/-- Is the mate of h well paired? -/
def pOK (signs mate : List Int) (h : Nat) : Bool :=
  decide (0 ≤ mt mate h) && decide (mt mate h < mate.length) && decide (mt mate (mt mate h).toNat = h) && (outB signs h != outB signs (mt mate h).toNat)
def pairB (signs mate : List Int) : Bool := (List.range mate.length).all (pOK signs mate)
theorem pairB_iff (signs mate : List Int) : pairB signs mate = true ↔ ∀ j, j < mate.length → pOK signs mate j = true := by
  unfold pairB; simp [List.all_eq_true]

abbrev dbox (A : Option Addr) (ns cs : Nat) (B : Option Addr) (nm cm : Nat) (lp : Int) : Obj := .cells #[.slice A ns cs, .slice B nm cm, .int .i64 lp] 24

/-- The box of a diagram lies at block g. -/
def DB (w : World) (g : Nat) (A : Option Addr) (ns cs : Nat) (B : Option Addr) (nm cm : Nat) (lp : Int) : Prop :=
  w.cell? ⟨g, 0, none⟩ = some (.slice A ns cs) ∧ w.cell? ⟨g, 1, none⟩ = some (.slice B nm cm) ∧ w.cell? ⟨g, 2, none⟩ = some (.int .i64 lp) ∧ g < w.heap.size
theorem DB.new (w : World) (A : Option Addr) (ns cs : Nat) (B : Option Addr) (nm cm : Nat) (lp : Int) : DB (w.alloc (dbox A ns cs B nm cm lp)) w.heap.size A ns cs B nm cm lp := by
  refine ⟨?_, ?_, ?_, by simp⟩ <;> (rw [World.cell?_alloc_at _ _ _ _ rfl]; rfl)
theorem DB.keep {w w' : World} {g : Nat} {A : Option Addr} {ns cs : Nat} {B : Option Addr} {nm cm : Nat} {lp : Int} (h : DB w g A ns cs B nm cm lp) (hb : Below w.heap.size w w') : DB w' g A ns cs B nm cm lp :=
  ⟨(hb.cell (p := ⟨g, 0, none⟩) h.2.2.2).trans h.1, (hb.cell (p := ⟨g, 1, none⟩) h.2.2.2).trans h.2.1, (hb.cell (p := ⟨g, 2, none⟩) h.2.2.2).trans h.2.2.1, Nat.lt_of_lt_of_le h.2.2.2 hb.size⟩

theorem pOK_out {signs mate : List Int} {k nm : Nat} (h : pOK signs mate k = true) (hl : mate.length = nm) : ∃ m : Nat, mt mate k = m ∧ m < nm ∧ mt mate m = k ∧ outB signs k ≠ outB signs m := by
  unfold pOK at h
  simp only [Bool.and_eq_true, decide_eq_true_eq, bne_iff_ne] at h
  obtain ⟨⟨⟨h0, h1⟩, h2⟩, h3⟩ := h
  refine ⟨(mt mate k).toNat, by omega, by omega, h2, h3⟩
theorem pOK_bad {signs mate : List Int} {k nm : Nat} (h : pOK signs mate k = false) (hl : mate.length = nm) :
    mt mate k < 0 ∨ (nm : Int) ≤ mt mate k ∨ ∃ m : Nat, mt mate k = m ∧ m < nm ∧ (mt mate m ≠ k ∨ (mt mate m = k ∧ outB signs m = outB signs k)) := by
  by_cases h0 : mt mate k < 0
  · exact .inl h0
  · by_cases h1 : (nm : Int) ≤ mt mate k
    · exact .inr (.inl h1)
    · refine .inr (.inr ⟨(mt mate k).toNat, by omega, by omega, ?_⟩)
      by_cases h2 : mt mate (mt mate k).toNat = k
      · refine .inr ⟨h2, ?_⟩
        cases h3 : outB signs k <;> cases h4 : outB signs (mt mate k).toNat <;> first | rfl | skip
        all_goals
          exfalso
          have : pOK signs mate k = true := by
            unfold pOK
            simp only [Bool.and_eq_true, decide_eq_true_eq, bne_iff_ne]
            exact ⟨⟨⟨by omega, by omega⟩, h2⟩, by rw [h3, h4]; simp⟩
          rw [this] at h; cases h
      · exact .inl h2
def Calls_out (signs : List Int) (k : Nat) (p : Bool) : Prop := outB signs k = p
theorem Calls_out.out {signs : List Int} {k : Nat} {p : Bool} (h : Calls_out signs k p) : outB signs k = p := h

theorem below_drew_left {w w' : World} (h : Below w.drew.heap.size w.drew w') : Below w.heap.size w w' :=
  ((Below.refl w.heap.size w).drew).trans h

set_option maxHeartbeats 1600000 in
theorem paired_upto (h0 : Nat) (A B : Option Addr) (ns cs nm cm : Nat) (lp : Int) (signs mate : List Int) (w : World) (hs : RI w A ns signs) (hm : RI w B nm mate) (hnm : nm = 4 * ns) (hns : ns ≤ 64)
    (hh0 : h0 ≤ nm) (hg : ∀ j, j < h0 → pOK signs mate j = true) (hbad : h0 < nm → pOK signs mate h0 = false) (hrange : ∀ j, j < nm → -9223372036854775808 ≤ mt mate j ∧ mt mate j ≤ 9223372036854775807)
    (r : Bool) (hr : r = decide (h0 = nm)) :
    Calls Tryz.prog 44 #[dval A ns cs B nm cm lp] w fun e w' => e = .returned (.bool r) ∧ Below w.heap.size w w' := by
  have hd := DB.new w A ns cs B nm cm lp
  have hs1 := hs.alloc (dbox A ns cs B nm cm lp)
  have hm1 := hm.alloc (dbox A ns cs B nm cm lp)
  have hb0 := below_alloc w (dbox A ns cs B nm cm lp)
  have hml := hm.1
  have HML := Lib.hid hml
  clear hml hs hm
  have HNM := Lib.hid hnm
  clear hnm
  have HR := Lib.hid hr
  clear hr
  go_enter Tryz.func44, Tryz.ntmps44
  go_wp2
  generalize hwA : w.alloc (dbox A ns cs B nm cm lp) = wA at hd hs1 hm1 hb0 ⊢
  clear hwA
  go_loopw [3, 4, 8] (fun _ _ i wr => ∃ k : Nat, k ≤ h0 ∧ i = .int .i64 k ∧ Below wA.heap.size wA wr) (fun _ _ i _ => nm - (intOf i).toNat)
  case atStart => exact ⟨0, by omega, rfl, Below.refl _ _⟩
  case round =>
    obtain ⟨k, hk, rfl, hbr⟩ := hrel
    have hdr := hd.keep hbr
    have hsr := hs1.keep hbr
    have hmr := hm1.keep hbr
    obtain ⟨d0, d1, d2, dlt⟩ := hdr
    by_cases hlt0 : k < h0
    · have hlt : k < nm := by omega
      clear hbad hrange
      obtain ⟨b, off, rfl, hbb, hc⟩ := hmr.2 (by omega)
      have hck := hc k hlt
      obtain ⟨m, hmk, hmlt, hmm, hne⟩ := pOK_out (hg k hlt0) HML.out
      have hcm := hc m hmlt
      have hmk' : mate.getD k 0 = (m : Int) := hmk
      have hmm' : mate.getD m 0 = (k : Int) := hmm
      rw [hmk'] at hck
      rw [hmm'] at hcm
      have hk4 : k / 4 < ns := by have := HNM.out; omega
      have hm4 : m / 4 < ns := by have := HNM.out; omega
      have H1 : Calls_out signs k (outB signs k) := rfl
      generalize outB signs k = p at hne H1
      have hne' : outB signs m = !p := by cases p <;> cases h : outB signs m <;> simp_all
      have H2 := Lib.hid hne'
      clear hne hne' hg hc hmk hmm hmk' hmm' hmr
      have hk0 : (0 : Int) ≤ (k : Int) := Int.natCast_nonneg _
      have hm0 : (0 : Int) ≤ (m : Int) := Int.natCast_nonneg _
      have hm0' : decide ((m : Int) < 0) = false := by simp only [decide_eq_false_iff_not]; omega
      have hm1'' : decide (nm ≤ m) = false := by simp only [decide_eq_false_iff_not]; omega
      have hk1 : (k : Int) < (nm : Int) := by omega
      have hm1' : (m : Int) < (nm : Int) := by omega
      go_wp2
      go_region_held3 (fun w' => w'.cell? ⟨w.heap.size, 0, none⟩ = some (.slice A ns cs) ∧ w'.cell? ⟨w.heap.size, 1, none⟩ = some (.slice (some ⟨b, off, none⟩) nm cm) ∧ w'.cell? ⟨w.heap.size, 2, none⟩ = some (.int .i64 lp))
        (first
          | go_keep
          | exact ⟨(hbB.cell (p := ⟨w.heap.size, 0, none⟩) dlt).trans d0, (hbB.cell (p := ⟨w.heap.size, 1, none⟩) dlt).trans d1, (hbB.cell (p := ⟨w.heap.size, 2, none⟩) dlt).trans d2⟩
          | exact ⟨(hbA.cell (p := ⟨w.heap.size, 0, none⟩) dlt).trans d0, (hbA.cell (p := ⟨w.heap.size, 1, none⟩) dlt).trans d1, (hbA.cell (p := ⟨w.heap.size, 2, none⟩) dlt).trans d2⟩)
        (first
          | (go_at_call_of 64 (Value.int .i64 k); refine (outgoing_any _ _ _ _ _ _ _ signs k _ hsr.drew hk4 (by omega)).mono ?_; rw [H1.out]; rintro e w1 ⟨rfl, hbA⟩)
          | (go_at_call_of 64 (Value.int .i64 m); refine (outgoing_any _ _ _ _ _ _ _ signs m _ (hsr.drew.keep hbA) hm4 (by omega)).mono ?_; rw [H2.out]; rintro e w2 ⟨rfl, hbA2⟩; have hbB := below_step hbA hbA2))
      go_wp2
      go_roundw
      case rel => exact ⟨k + 1, by omega, by go_num, hbr.trans ((below_drew_left hbB).mono hbr.size)⟩
      case measure => simp [intOf]; omega
    · obtain rfl : k = h0 := by omega
      clear hg
      by_cases hlt : k < nm
      · have hb := hbad hlt
        have hr0 := hrange k hlt
        clear hbad
        obtain ⟨b, off, rfl, hbb, hc⟩ := hmr.2 (by omega)
        have hck : wr.cell? ⟨b, off + k, none⟩ = some (.int .i64 (mt mate k)) := hc k hlt
        obtain rfl : r = false := by rw [HR.out]; simp only [decide_eq_false_iff_not]; omega
        clear HR
        have hk0 : (0 : Int) ≤ (k : Int) := Int.natCast_nonneg _
        have hk1 : (k : Int) < (nm : Int) := by omega
        have hcase := pOK_bad hb HML.out
        clear hb
        rcases hcase with hneg | hbig | ⟨m, hmk, hmlt, hrest⟩
        · have hx1 : decide (mt mate k < 0) = true := by simp only [decide_eq_true_eq]; omega
          clear hc hrange
          generalize mt mate k = x at hck hneg hx1 hr0
          obtain ⟨hr1, hr2⟩ := hr0
          go_wp2
          go_ret
          exact ⟨rfl, hb0.trans (hbr.mono hb0.size)⟩
        · have hx1 : decide (mt mate k < 0) = false := by simp only [decide_eq_false_iff_not]; omega
          have hx2 : decide ((nm : Int) ≤ mt mate k) = true := by simp only [decide_eq_true_eq]; omega
          clear hc hrange
          generalize mt mate k = x at hck hbig hx1 hx2 hr0
          obtain ⟨hr1, hr2⟩ := hr0
          go_wp2
          go_ret
          exact ⟨rfl, hb0.trans (hbr.mono hb0.size)⟩
        · have hcm : wr.cell? ⟨b, off + m, none⟩ = some (.int .i64 (mt mate m)) := hc m hmlt
          have hrm : -9223372036854775808 ≤ mt mate m ∧ mt mate m ≤ 9223372036854775807 := by
            exact hrange m hmlt
          rw [hmk] at hck
          clear hc hmk hr0 hrange
          have hm0 : (0 : Int) ≤ (m : Int) := Int.natCast_nonneg _
          have hm0' : decide ((m : Int) < 0) = false := by simp only [decide_eq_false_iff_not]; omega
          have hm1'' : decide (nm ≤ m) = false := by simp only [decide_eq_false_iff_not]; omega
          have hm1' : (m : Int) < (nm : Int) := by omega
          rcases hrest with hne | ⟨heq, hout⟩
          · have hx : (mt mate m != (k : Int)) = true := by simp [hne]
            generalize mt mate m = x at hcm hx hne hrm
            go_wp2
            go_ret
            exact ⟨rfl, hb0.trans (hbr.mono hb0.size)⟩
          · rw [heq] at hcm
            have hk4 : k / 4 < ns := by have := HNM.out; omega
            have hm4 : m / 4 < ns := by have := HNM.out; omega
            have H1 : Calls_out signs k (outB signs k) := rfl
            generalize outB signs k = p at hout H1
            have H2 := Lib.hid hout
            clear hout heq hrm
            go_wp2
            go_region_held3 (fun w' => w'.cell? ⟨w.heap.size, 0, none⟩ = some (.slice A ns cs) ∧ w'.cell? ⟨w.heap.size, 1, none⟩ = some (.slice (some ⟨b, off, none⟩) nm cm) ∧ w'.cell? ⟨w.heap.size, 2, none⟩ = some (.int .i64 lp))
              (first
                | go_keep
                | exact ⟨(hbB.cell (p := ⟨w.heap.size, 0, none⟩) dlt).trans d0, (hbB.cell (p := ⟨w.heap.size, 1, none⟩) dlt).trans d1, (hbB.cell (p := ⟨w.heap.size, 2, none⟩) dlt).trans d2⟩
                | exact ⟨(hbA.cell (p := ⟨w.heap.size, 0, none⟩) dlt).trans d0, (hbA.cell (p := ⟨w.heap.size, 1, none⟩) dlt).trans d1, (hbA.cell (p := ⟨w.heap.size, 2, none⟩) dlt).trans d2⟩)
              (first
                | (go_at_call_of 64 (Value.int .i64 k); refine (outgoing_any _ _ _ _ _ _ _ signs k _ hsr.drew hk4 (by omega)).mono ?_; rw [H1.out]; rintro e w1 ⟨rfl, hbA⟩)
                | (go_at_call_of 64 (Value.int .i64 m); refine (outgoing_any _ _ _ _ _ _ _ signs m _ (hsr.drew.keep hbA) hm4 (by omega)).mono ?_; rw [H2.out]; rintro e w2 ⟨rfl, hbA2⟩; have hbB := below_step hbA hbA2))
            go_wp2
            go_ret
            exact ⟨rfl, hb0.trans ((hbr.trans ((below_drew_left hbB).mono hbr.size)).mono hb0.size)⟩
      · obtain rfl : r = true := by rw [HR.out]; simp only [decide_eq_true_eq]; omega
        clear hbad hrange HR
        go_wp2
        go_ret
        exact ⟨rfl, hb0.trans (hbr.mono hb0.size)⟩

theorem paired_any (A B : Option Addr) (ns cs nm cm : Nat) (lp : Int) (signs mate : List Int) (w : World) (hs : RI w A ns signs) (hm : RI w B nm mate) (hnm : nm = 4 * ns) (hns : ns ≤ 64)
    (hrange : ∀ j, j < nm → -9223372036854775808 ≤ mt mate j ∧ mt mate j ≤ 9223372036854775807) :
    Calls Tryz.prog 44 #[dval A ns cs B nm cm lp] w fun e w' => e = .returned (.bool (pairB signs mate)) ∧ Below w.heap.size w w' := by
  by_cases hg : ∀ j, j < nm → pOK signs mate j = true
  · have e : pairB signs mate = true := (pairB_iff _ _).2 (by rw [hm.1]; exact hg)
    rw [e]
    exact paired_upto nm A B ns cs nm cm lp signs mate w hs hm hnm hns (Nat.le_refl _) hg (fun h => absurd h (by omega)) hrange true (by simp)
  · have e : pairB signs mate = false := by
      cases h : pairB signs mate with
      | false => rfl
      | true => exact absurd (by rw [← hm.1]; exact (pairB_iff _ _).1 h) hg
    rw [e]
    obtain ⟨j0, h1, h2, h3⟩ := least_bad (pOK signs mate) nm hg
    exact paired_upto j0 A B ns cs nm cm lp signs mate w hs hm hnm hns (by omega) h2 (fun _ => h3) hrange false (by simp; omega)

end Go.Proofs.YtdacjnmfmhkpiaaGreatDoor
