import Derived.Test.YtkfjledhnakfoaaRows
import Derived.WalkKit
import Derived.WalkSpells
import Derived.WalkLawsBesides
import Derived.IntWalk
import Derived.Lib.Hide
import Derived.Deep.QuietTactic
import Derived.BigQuiet
import Derived.Deep.RegionHeld3
import Derived.Deep.DeepCutAuto
import Derived.StillTailTactics
/- Words for memory: a slice of ints that reads as a list. -/
namespace Go.Proofs.Ytkfjledhnakfoaa
open Go.RowKit

theorem ret_int {k : IntKind} {a b : Int} (h : a = b) : Ending.returned (.int k a) = .returned (.int k b) := by rw [h]
theorem ret_bool {a b : Bool} (h : a = b) : Ending.returned (.bool a) = .returned (.bool b) := by rw [h]

/-- The slice value 'slice A n _' reads as the list xs of ints. -/
def RI (w : World) (A : Option Addr) (n : Nat) (xs : List Int) : Prop :=
  xs.length = n ∧ (0 < n → ∃ b off, A = some ⟨b, off, none⟩ ∧ b < w.heap.size ∧ ∀ j, j < n → w.cell? ⟨b, off + j, none⟩ = some (.int .i64 (xs.getD j 0)))

theorem RI.keep {w w' : World} {A : Option Addr} {n : Nat} {xs : List Int} (h : RI w A n xs) (hb : Below w.heap.size w w') : RI w' A n xs :=
  ⟨h.1, fun hn => by
    obtain ⟨b, off, e, hlt, hc⟩ := h.2 hn
    exact ⟨b, off, e, Nat.lt_of_lt_of_le hlt hb.size, fun j hj => (hb.cell (p := ⟨b, off + j, none⟩) hlt).trans (hc j hj)⟩⟩
theorem below_alloc (w : World) (o : Obj) : Below w.heap.size w (w.alloc o) := (Below.refl _ _).alloc (Nat.le_refl _) o
theorem below_step {w w1 w2 : World} (h : Below w.heap.size w w1) (k : Below w1.heap.size w1 w2) : Below w.heap.size w w2 := h.trans (k.mono h.size)
theorem RI.nil (w : World) (A : Option Addr) : RI w A 0 [] := ⟨rfl, fun h => absurd h (by omega)⟩
theorem RI.alloc {w : World} {A : Option Addr} {n : Nat} {xs : List Int} (h : RI w A n xs) (o : Obj) : RI (w.alloc o) A n xs := h.keep (below_alloc w o)
theorem RI.drew {w : World} {A : Option Addr} {n : Nat} {xs : List Int} (h : RI w A n xs) : RI w.drew A n xs := h
theorem RI.drewN {w : World} {A : Option Addr} {n : Nat} {xs : List Int} (h : RI w A n xs) (k : Nat) : RI (w.drewN k) A n xs := h

/-- A diagram's value. -/
abbrev dval (A : Option Addr) (ns cs : Nat) (B : Option Addr) (nm cm : Nat) (lp : Int) : Value := .agg #[.slice A ns cs, .slice B nm cm, .int .i64 lp]

end Go.Proofs.Ytkfjledhnakfoaa

/- Walks of the small functions on half-edges. -/
namespace Go.Proofs.Ytkfjledhnakfoaa
open Go.RowKit

def turnI (h k : Int) : Int := if h < 0 then -1 else h - h % 4 + (h % 4 + k.tmod 4 + 4) % 4
def outB (signs : List Int) (h : Nat) : Bool :=
  if h % 4 = 1 then signs.getD (h / 4) 0 == 1 else if h % 4 = 2 then true else if h % 4 = 3 then signs.getD (h / 4) 0 == -1 else false

theorem tmod4 (k : Int) : -4 < k.tmod 4 ∧ k.tmod 4 < 4 := by
  have := Int.tmod_lt_of_pos k (b := 4) (by omega)
  have := Int.lt_tmod_of_pos k (b := 4) (by omega)
  omega

theorem tmod_small (a : Int) (h1 : -4 < a) (h2 : a < 0) : a.tmod 4 = a := by
  have : a = -1 ∨ a = -2 ∨ a = -3 := by omega
  rcases this with rfl | rfl | rfl <;> rfl

set_option maxHeartbeats 400000 in
theorem turn_any (h k : Int) (w : World) (hlo : -9223372036854775808 ≤ h) (hhi : h ≤ 9223372036854775807) (_klo : -9223372036854775808 ≤ k) (_khi : k ≤ 9223372036854775807) :
    Calls Try.prog 123 #[.int .i64 h, .int .i64 k] w fun e w' => e = .returned (.int .i64 (turnI h k)) ∧ w = w' := by
  obtain ⟨ht1, ht2⟩ := tmod4 k
  by_cases hn : h < 0
  · go_enter Try.func123, Try.ntmps123
    go_wp2
    go_ret
    exact ⟨ret_int (by simp [turnI, hn]), rfl⟩
  · have hn' : 0 ≤ h := by omega
    go_enter Try.func123, Try.ntmps123
    go_wp2
    go_ret
    exact ⟨ret_int (by rw [turnI, if_neg (by omega)]; omega), rfl⟩

set_option maxHeartbeats 400000 in
theorem opposite_any (h : Int) (w : World) (hlo : -9223372036854775808 ≤ h) (hhi : h ≤ 9223372036854775807) :
    Calls Try.prog 111 #[.int .i64 h] w fun e w' => e = .returned (.int .i64 (turnI h 2)) ∧ w = w' := by
  go_enter Try.func111, Try.ntmps111
  go_wp2_with (go_at_call 123; refine (turn_any _ _ _ (by omega) (by omega) (by omega) (by omega)).mono ?_; rintro e w' ⟨rfl, rfl⟩)
  go_ret
  exact ⟨rfl, rfl⟩

theorem mod4_cases (h : Nat) : h % 4 = 0 ∨ h % 4 = 1 ∨ h % 4 = 2 ∨ h % 4 = 3 := by omega

set_option maxHeartbeats 800000 in
theorem outgoing_any (A B : Option Addr) (ns cs nm cm : Nat) (lp : Int) (signs : List Int) (h : Nat) (w : World) (hs : RI w A ns signs) (hh : h / 4 < ns) (hns : ns ≤ 1000000) :
    Calls Try.prog 72 #[dval A ns cs B nm cm lp, .int .i64 h] w fun e w' => e = .returned (.bool (outB signs h)) ∧ Below w.heap.size w w' := by
  obtain ⟨b, off, rfl, hb, hc⟩ := hs.2 (by omega)
  have hcell : (w.alloc (.cells #[.slice (some ⟨b, off, none⟩) ns cs, .slice B nm cm, .int .i64 lp] 24)).cell? ⟨b, off + h / 4, none⟩ = some (.int .i64 (signs.getD (h / 4) 0)) := by
    rw [World.cell?_alloc_past _ _ _ hb]; exact hc _ hh
  generalize hx : signs.getD (h / 4) 0 = x at hcell
  clear hs hc
  rcases mod4_cases h with h4 | h4 | h4 | h4
  · have h4' : (h : Int) % 4 = 0 := by omega
    have e : outB signs h = false := by simp [outB, h4]
    rw [e]; clear e h4 hx
    go_enter Try.func72, Try.ntmps72
    go_wp2
    go_ret
    exact ⟨rfl, below_alloc _ _⟩
  · have h4' : (h : Int) % 4 = 1 := by omega
    have e : outB signs h = (x == 1) := by simp only [outB, h4, hx]; rfl
    rw [e]; clear e h4 hx
    go_enter Try.func72, Try.ntmps72
    go_wp2
    go_ret
    exact ⟨rfl, below_alloc _ _⟩
  · have h4' : (h : Int) % 4 = 2 := by omega
    have e : outB signs h = true := by simp [outB, h4]
    rw [e]; clear e h4 hx
    go_enter Try.func72, Try.ntmps72
    go_wp2
    go_ret
    exact ⟨rfl, below_alloc _ _⟩
  · have h4' : (h : Int) % 4 = 3 := by omega
    have e : outB signs h = (x == -1) := by simp only [outB, h4, hx]; rfl
    rw [e]; clear e h4 hx
    go_enter Try.func72, Try.ntmps72
    go_wp2
    go_ret
    exact ⟨rfl, below_alloc _ _⟩

end Go.Proofs.Ytkfjledhnakfoaa

/- Walks: limits, signs, half-edges, the next half-edge of a face or a strand. -/
namespace Go.Proofs.Ytkfjledhnakfoaa
open Go.RowKit

/-- The mate of a half-edge. -/
def mt (mate : List Int) (h : Nat) : Int := mate.getD h 0

set_option maxHeartbeats 400000 in
theorem nextface_any (A B : Option Addr) (ns cs nm cm : Nat) (lp : Int) (mate : List Int) (h : Nat) (w : World) (hs : RI w B nm mate) (hh : h < nm) (hlo : -9223372036854775808 ≤ mt mate h) (hhi : mt mate h ≤ 9223372036854775807) (hnm : nm ≤ 1000000000000000) :
    Calls Try.prog 105 #[dval A ns cs B nm cm lp, .int .i64 h] w fun e w' => e = .returned (.int .i64 (turnI (mt mate h) (-1))) ∧ Below w.heap.size w w' := by
  obtain ⟨b, off, rfl, hb, hc⟩ := hs.2 (by omega)
  have hcell : (w.alloc (.cells #[.slice A ns cs, .slice (some ⟨b, off, none⟩) nm cm, .int .i64 lp] 24)).cell? ⟨b, off + h, none⟩ = some (.int .i64 (mt mate h)) := by
    rw [World.cell?_alloc_past _ _ _ hb]; exact hc _ hh
  generalize mt mate h = x at hcell hlo hhi
  clear hs hc
  go_enter Try.func105, Try.ntmps105
  go_wp2_with (go_at_call 123; refine (turn_any _ _ _ (by omega) (by omega) (by omega) (by omega)).mono ?_; rintro e w' ⟨rfl, rfl⟩)
  go_ret
  exact ⟨rfl, below_alloc _ _⟩

set_option maxHeartbeats 400000 in
theorem nextstrand_any (A B : Option Addr) (ns cs nm cm : Nat) (lp : Int) (mate : List Int) (h : Nat) (w : World) (hs : RI w B nm mate) (hh : h < nm) (hlo : -9223372036854775808 ≤ mt mate h) (hhi : mt mate h ≤ 9223372036854775807) (hnm : nm ≤ 1000000000000000) :
    Calls Try.prog 75 #[dval A ns cs B nm cm lp, .int .i64 h] w fun e w' => e = .returned (.int .i64 (turnI (mt mate h) 2)) ∧ Below w.heap.size w w' := by
  obtain ⟨b, off, rfl, hb, hc⟩ := hs.2 (by omega)
  have hcell : (w.alloc (.cells #[.slice A ns cs, .slice (some ⟨b, off, none⟩) nm cm, .int .i64 lp] 24)).cell? ⟨b, off + h, none⟩ = some (.int .i64 (mt mate h)) := by
    rw [World.cell?_alloc_past _ _ _ hb]; exact hc _ hh
  generalize mt mate h = x at hcell hlo hhi
  clear hs hc
  go_enter Try.func75, Try.ntmps75
  go_wp2_with (go_at_call 111; refine (opposite_any _ _ (by omega) (by omega)).mono ?_; rintro e w' ⟨rfl, rfl⟩)
  go_ret
  exact ⟨rfl, below_alloc _ _⟩

def limB (ns nm : Nat) (lp : Int) : Bool := decide (ns ≤ 64) && decide (nm = 4 * ns) && decide (0 ≤ lp) && decide (lp ≤ 64)
set_option maxHeartbeats 800000 in
theorem limits_any (A B : Option Addr) (ns cs nm cm : Nat) (lp : Int) (w : World) (hns : ns ≤ 1000000000000000) (hnm : nm ≤ 1000000000000000) :
    Calls Try.prog 62 #[dval A ns cs B nm cm lp] w fun e w' => e = .returned (.bool (limB ns nm lp)) ∧ Below w.heap.size w w' := by
  by_cases h1 : ns ≤ 64
  · by_cases h2 : nm = 4 * ns
    · subst h2
      by_cases h3 : 0 ≤ lp
      · by_cases h4 : lp ≤ 64
        · have e : limB ns (4 * ns) lp = true := by simp [limB, *]
          rw [e]; clear e
          go_enter Try.func62, Try.ntmps62
          go_wp2
          go_ret
          exact ⟨rfl, below_alloc _ _⟩
        · have e : limB ns (4 * ns) lp = false := by simp [limB, *]
          rw [e]; clear e
          have h4' : 64 < lp := by omega
          go_enter Try.func62, Try.ntmps62
          go_wp2
          go_ret
          exact ⟨rfl, below_alloc _ _⟩
      · have e : limB ns (4 * ns) lp = false := by simp [limB, *]
        rw [e]; clear e
        have h4' : lp < 0 := by omega
        go_enter Try.func62, Try.ntmps62
        go_wp2
        go_ret
        exact ⟨rfl, below_alloc _ _⟩
    · have e : limB ns nm lp = false := by simp [limB, *]
      rw [e]; clear e
      have h4 : ((nm : Int) == 4 * (ns : Int)) = false := by simp; omega
      go_enter Try.func62, Try.ntmps62
      go_wp2
      go_ret
      exact ⟨rfl, below_alloc _ _⟩
  · have e : limB ns nm lp = false := by simp [limB, *]
    rw [e]; clear e
    have h4' : 64 < ns := by omega
    go_enter Try.func62, Try.ntmps62
    go_wp2
    go_ret
    exact ⟨rfl, below_alloc _ _⟩

/-- Is a number a sign? -/
def sgB (x : Int) : Bool := x == 1 || x == -1
set_option maxHeartbeats 400000 in
theorem badsign_any (x : Int) (w : World) :
    Calls Try.prog 104 #[.int .i64 x] w fun e w' => e = .returned (.bool (!sgB x)) ∧ w = w' := by
  by_cases h1 : x = 1
  · subst h1
    go_enter Try.func104, Try.ntmps104
    go_wp2
    go_ret
    exact ⟨rfl, rfl⟩
  · have e1 : (x != 1) = true := by simp [h1]
    have e2 : (!sgB x) = (x != -1) := by simp [sgB, h1, bne]
    rw [e2]; clear e2 h1
    go_enter Try.func104, Try.ntmps104
    go_wp2
    go_ret
    exact ⟨rfl, rfl⟩

def sgnsB (signs : List Int) : Bool := signs.all sgB

end Go.Proofs.Ytkfjledhnakfoaa

/- Walks: signsValid, matesPaired. -/
namespace Go.Proofs.Ytkfjledhnakfoaa
open Go.RowKit

set_option maxHeartbeats 800000 in
theorem index_all (A : Option Addr) (n c : Nat) (xs : List Int) (w : World) (hs : RI w A n xs) (hn : n ≤ 1000000000000000) (hg : ∀ j, j < n → sgB (xs.getD j 0) = true) :
    Calls Try.prog 129 #[.slice A n c, .func (.func 104) #[] #[]] w fun e w' => e = .returned (.int .i64 (-1)) ∧ w = w' := by
  by_cases hn0 : n = 0
  · subst hn0
    clear hs hg
    go_enter Try.func129, Try.ntmps129
    go_wp2
    go_loop [5, 8] (fun _ i => i = .int .i64 (0 : Nat)) (fun _ _ => 0)
    case atStart => rfl
    case round =>
      obtain rfl := hrel
      go_wp2
      go_ret
      exact ⟨rfl, rfl⟩
  · obtain ⟨b, off, rfl, hb, hc⟩ := hs.2 (by omega)
    clear hs
    go_enter Try.func129, Try.ntmps129
    go_wp2
    go_loop [5, 8] (fun _ i => ∃ k : Nat, k ≤ n ∧ i = .int .i64 k) (fun _ i => n - (intOf i).toNat)
    case atStart => exact ⟨0, by omega, rfl⟩
    case round =>
      obtain ⟨k, hk, rfl⟩ := hrel
      by_cases hlt : k < n
      · have hcell := hc k hlt
        have hgk := hg k hlt
        clear hc hg
        generalize xs.getD k 0 = x at hcell hgk
        have HG := Lib.hid hgk
        clear hgk
        go_wp2_with (go_at_call 104; refine (badsign_any _ _).mono ?_; rintro e w' ⟨rfl, rfl⟩; rw [HG.out])
        go_round
        case rel => exact ⟨k + 1, by omega, by go_num⟩
        case measure => simp [intOf]; omega
      · clear hc hg
        go_wp2
        go_ret
        exact ⟨rfl, rfl⟩

set_option maxHeartbeats 800000 in
theorem index_bad (A : Option Addr) (n c j0 : Nat) (xs : List Int) (w : World) (hs : RI w A n xs) (hn : n ≤ 1000000000000000) (hj : j0 < n) (hg : ∀ j, j < j0 → sgB (xs.getD j 0) = true) (hbad : sgB (xs.getD j0 0) = false) :
    Calls Try.prog 129 #[.slice A n c, .func (.func 104) #[] #[]] w fun e w' => e = .returned (.int .i64 j0) ∧ w = w' := by
  obtain ⟨b, off, rfl, hb, hc⟩ := hs.2 (by omega)
  clear hs
  go_enter Try.func129, Try.ntmps129
  go_wp2
  go_loop [5, 8] (fun _ i => ∃ k : Nat, k ≤ j0 ∧ i = .int .i64 k) (fun _ i => n - (intOf i).toNat)
  case atStart => exact ⟨0, by omega, rfl⟩
  case round =>
    obtain ⟨k, hk, rfl⟩ := hrel
    have hlt : k < n := by omega
    have hcell := hc k hlt
    by_cases hlt : k < j0
    · have hgk := hg k hlt
      clear hc hg hbad
      generalize xs.getD k 0 = x at hcell hgk
      have HG := Lib.hid hgk
      clear hgk
      go_wp2_with (go_at_call 104; refine (badsign_any _ _).mono ?_; rintro e w' ⟨rfl, rfl⟩; rw [HG.out])
      go_round
      case rel => exact ⟨k + 1, by omega, by go_num⟩
      case measure => simp [intOf]; omega
    · obtain rfl : k = j0 := by omega
      clear hc hg
      generalize xs.getD k 0 = x at hcell hbad
      have HG := Lib.hid hbad
      clear hbad
      go_wp2_with (go_at_call 104; refine (badsign_any _ _).mono ?_; rintro e w' ⟨rfl, rfl⟩; rw [HG.out])
      go_ret
      exact ⟨rfl, rfl⟩

theorem least_bad (p : Nat → Bool) (n : Nat) (h : ¬ ∀ j, j < n → p j = true) : ∃ j0, j0 < n ∧ (∀ j, j < j0 → p j = true) ∧ p j0 = false := by
  induction n with
  | zero => exact absurd (fun j hj => absurd hj (by omega)) h
  | succ n ih =>
    by_cases hn : ∀ j, j < n → p j = true
    · refine ⟨n, by omega, hn, ?_⟩
      cases hp : p n with
      | false => rfl
      | true => exact absurd (fun j hj => by
          by_cases e : j = n
          · subst e; exact hp
          · exact hn j (by omega)) h
    · obtain ⟨j0, h1, h2, h3⟩ := ih hn
      exact ⟨j0, by omega, h2, h3⟩

theorem sgnsB_iff (xs : List Int) : sgnsB xs = true ↔ ∀ j, j < xs.length → sgB (xs.getD j 0) = true := by
  unfold sgnsB
  rw [List.all_eq_true]
  constructor
  · intro h j hj
    have : xs.getD j 0 = xs[j] := by simp [List.getD, hj]
    rw [this]; exact h _ (List.getElem_mem _)
  · intro h x hx
    obtain ⟨j, hj, rfl⟩ := List.mem_iff_getElem.1 hx
    have : xs.getD j 0 = xs[j] := by simp [List.getD, hj]
    rw [← this]; exact h j hj

set_option maxHeartbeats 800000 in
theorem contains_any (A : Option Addr) (n c : Nat) (xs : List Int) (w : World) (hs : RI w A n xs) (hn : n ≤ 1000000000000000) :
    Calls Try.prog 103 #[.slice A n c, .func (.func 104) #[] #[]] w fun e w' => e = .returned (.bool (!sgnsB xs)) ∧ w = w' := by
  by_cases hg : ∀ j, j < n → sgB (xs.getD j 0) = true
  · have e : (!sgnsB xs) = false := by
      rw [(sgnsB_iff xs).2 (by rw [hs.1]; exact hg)]; rfl
    rw [e]; clear e
    go_enter Try.func103, Try.ntmps103
    go_wp2_with (go_at_call 129; refine (index_all _ _ _ xs _ hs hn hg).mono ?_; rintro e w' ⟨rfl, rfl⟩)
    go_ret
    exact ⟨rfl, rfl⟩
  · have e : (!sgnsB xs) = true := by
      cases h : sgnsB xs with
      | false => rfl
      | true => exact absurd (by rw [← hs.1]; exact (sgnsB_iff xs).1 h) hg
    rw [e]; clear e
    obtain ⟨j0, h1, h2, h3⟩ := least_bad (fun j => sgB (xs.getD j 0)) n hg
    clear hg
    have H2 := Lib.hid h2
    have H3 := Lib.hid h3
    clear h2 h3
    go_enter Try.func103, Try.ntmps103
    go_wp2_with (go_at_call 129; refine (index_bad _ _ _ j0 xs _ hs hn h1 H2.out H3.out).mono ?_; rintro e w' ⟨rfl, rfl⟩)
    go_ret
    exact ⟨rfl, rfl⟩

set_option maxHeartbeats 800000 in
theorem signs_any (A : Option Addr) (n c : Nat) (xs : List Int) (w : World) (hs : RI w A n xs) (hn : n ≤ 1000000000000000) :
    Calls Try.prog 63 #[.slice A n c] w fun e w' => e = .returned (.bool (sgnsB xs)) ∧ w = w' := by
  go_enter Try.func63, Try.ntmps63
  go_wp2_with (go_at_call 103; refine (contains_any _ _ _ xs _ hs hn).mono ?_; rintro e w' ⟨rfl, rfl⟩)
  go_ret
  exact ⟨ret_bool (by simp), rfl⟩

end Go.Proofs.Ytkfjledhnakfoaa

/- Walk: matesPaired. -/
namespace Go.Proofs.Ytkfjledhnakfoaa
open Go.RowKit

/-- Is the mate of h well paired? -/
def pOK (signs mate : List Int) (h : Nat) : Bool :=
  decide (0 ≤ mt mate h) && decide (mt mate h < mate.length) && decide (mt mate (mt mate h).toNat = h) && (outB signs h != outB signs (mt mate h).toNat)
def pairB (signs mate : List Int) : Bool := (List.range mate.length).all (pOK signs mate)
theorem pairB_iff (signs mate : List Int) : pairB signs mate = true ↔ ∀ j, j < mate.length → pOK signs mate j = true := by
  unfold pairB; simp [List.all_eq_true]

abbrev dbox (A : Option Addr) (ns cs : Nat) (B : Option Addr) (nm cm : Nat) (lp : Int) : Obj := .cells #[.slice A ns cs, .slice B nm cm, .int .i64 lp] 24

/-- The box of a diagram lies at block g. -/
def DB (w : World) (g : Nat) (A : Option Addr) (ns cs : Nat) (B : Option Addr) (nm cm : Nat) (lp : Int) : Prop :=
  w.cell? ⟨g, 0, none⟩ = some (.slice A ns cs) ∧ w.cell? ⟨g, 1, none⟩ = some (.slice B nm cm) ∧ w.cell? ⟨g, 2, none⟩ = some (.int .i64 lp) ∧ g < w.heap.size
theorem DB.new (w : World) (A : Option Addr) (ns cs : Nat) (B : Option Addr) (nm cm : Nat) (lp : Int) : DB (w.alloc (dbox A ns cs B nm cm lp)) w.heap.size A ns cs B nm cm lp := by
  refine ⟨?_, ?_, ?_, by simp⟩ <;> (rw [World.cell?_alloc_at _ _ _ _ rfl]; rfl)
theorem DB.keep {w w' : World} {g : Nat} {A : Option Addr} {ns cs : Nat} {B : Option Addr} {nm cm : Nat} {lp : Int} (h : DB w g A ns cs B nm cm lp) (hb : Below w.heap.size w w') : DB w' g A ns cs B nm cm lp :=
  ⟨(hb.cell (p := ⟨g, 0, none⟩) h.2.2.2).trans h.1, (hb.cell (p := ⟨g, 1, none⟩) h.2.2.2).trans h.2.1, (hb.cell (p := ⟨g, 2, none⟩) h.2.2.2).trans h.2.2.1, Nat.lt_of_lt_of_le h.2.2.2 hb.size⟩

theorem pOK_out {signs mate : List Int} {k nm : Nat} (h : pOK signs mate k = true) (hl : mate.length = nm) : ∃ m : Nat, mt mate k = m ∧ m < nm ∧ mt mate m = k ∧ outB signs k ≠ outB signs m := by
  unfold pOK at h
  simp only [Bool.and_eq_true, decide_eq_true_eq, bne_iff_ne] at h
  obtain ⟨⟨⟨h0, h1⟩, h2⟩, h3⟩ := h
  refine ⟨(mt mate k).toNat, by omega, by omega, h2, h3⟩
theorem pOK_bad {signs mate : List Int} {k nm : Nat} (h : pOK signs mate k = false) (hl : mate.length = nm) :
    mt mate k < 0 ∨ (nm : Int) ≤ mt mate k ∨ ∃ m : Nat, mt mate k = m ∧ m < nm ∧ (mt mate m ≠ k ∨ (mt mate m = k ∧ outB signs m = outB signs k)) := by
  by_cases h0 : mt mate k < 0
  · exact .inl h0
  · by_cases h1 : (nm : Int) ≤ mt mate k
    · exact .inr (.inl h1)
    · refine .inr (.inr ⟨(mt mate k).toNat, by omega, by omega, ?_⟩)
      by_cases h2 : mt mate (mt mate k).toNat = k
      · refine .inr ⟨h2, ?_⟩
        cases h3 : outB signs k <;> cases h4 : outB signs (mt mate k).toNat <;> first | rfl | skip
        all_goals
          exfalso
          have : pOK signs mate k = true := by
            unfold pOK
            simp only [Bool.and_eq_true, decide_eq_true_eq, bne_iff_ne]
            exact ⟨⟨⟨by omega, by omega⟩, h2⟩, by rw [h3, h4]; simp⟩
          rw [this] at h; cases h
      · exact .inl h2
def Calls_out (signs : List Int) (k : Nat) (p : Bool) : Prop := outB signs k = p
theorem Calls_out.out {signs : List Int} {k : Nat} {p : Bool} (h : Calls_out signs k p) : outB signs k = p := h

theorem below_drew_left {w w' : World} (h : Below w.drew.heap.size w.drew w') : Below w.heap.size w w' :=
  ((Below.refl w.heap.size w).drew).trans h

set_option maxHeartbeats 1600000 in
theorem paired_upto (h0 : Nat) (A B : Option Addr) (ns cs nm cm : Nat) (lp : Int) (signs mate : List Int) (w : World) (hs : RI w A ns signs) (hm : RI w B nm mate) (hnm : nm = 4 * ns) (hns : ns ≤ 64)
    (hh0 : h0 ≤ nm) (hg : ∀ j, j < h0 → pOK signs mate j = true) (hbad : h0 < nm → pOK signs mate h0 = false) (hrange : ∀ j, j < nm → -9223372036854775808 ≤ mt mate j ∧ mt mate j ≤ 9223372036854775807)
    (r : Bool) (hr : r = decide (h0 = nm)) :
    Calls Try.prog 64 #[dval A ns cs B nm cm lp] w fun e w' => e = .returned (.bool r) ∧ Below w.heap.size w w' := by
  have hd := DB.new w A ns cs B nm cm lp
  have hs1 := hs.alloc (dbox A ns cs B nm cm lp)
  have hm1 := hm.alloc (dbox A ns cs B nm cm lp)
  have hb0 := below_alloc w (dbox A ns cs B nm cm lp)
  have hml := hm.1
  have HML := Lib.hid hml
  clear hml hs hm
  have HNM := Lib.hid hnm
  clear hnm
  have HR := Lib.hid hr
  clear hr
  go_enter Try.func64, Try.ntmps64
  go_wp2
  generalize hwA : w.alloc (dbox A ns cs B nm cm lp) = wA at hd hs1 hm1 hb0 ⊢
  clear hwA
  go_loopw [3, 4, 8] (fun _ _ i wr => ∃ k : Nat, k ≤ h0 ∧ i = .int .i64 k ∧ Below wA.heap.size wA wr) (fun _ _ i _ => nm - (intOf i).toNat)
  case atStart => exact ⟨0, by omega, rfl, Below.refl _ _⟩
  case round =>
    obtain ⟨k, hk, rfl, hbr⟩ := hrel
    have hdr := hd.keep hbr
    have hsr := hs1.keep hbr
    have hmr := hm1.keep hbr
    obtain ⟨d0, d1, d2, dlt⟩ := hdr
    by_cases hlt0 : k < h0
    · have hlt : k < nm := by omega
      clear hbad hrange
      obtain ⟨b, off, rfl, hbb, hc⟩ := hmr.2 (by omega)
      have hck := hc k hlt
      obtain ⟨m, hmk, hmlt, hmm, hne⟩ := pOK_out (hg k hlt0) HML.out
      have hcm := hc m hmlt
      have hmk' : mate.getD k 0 = (m : Int) := hmk
      have hmm' : mate.getD m 0 = (k : Int) := hmm
      rw [hmk'] at hck
      rw [hmm'] at hcm
      have hk4 : k / 4 < ns := by have := HNM.out; omega
      have hm4 : m / 4 < ns := by have := HNM.out; omega
      have H1 : Calls_out signs k (outB signs k) := rfl
      generalize outB signs k = p at hne H1
      have hne' : outB signs m = !p := by cases p <;> cases h : outB signs m <;> simp_all
      have H2 := Lib.hid hne'
      clear hne hne' hg hc hmk hmm hmk' hmm' hmr
      have hk0 : (0 : Int) ≤ (k : Int) := Int.natCast_nonneg _
      have hm0 : (0 : Int) ≤ (m : Int) := Int.natCast_nonneg _
      have hm0' : decide ((m : Int) < 0) = false := by simp only [decide_eq_false_iff_not]; omega
      have hm1'' : decide (nm ≤ m) = false := by simp only [decide_eq_false_iff_not]; omega
      have hk1 : (k : Int) < (nm : Int) := by omega
      have hm1' : (m : Int) < (nm : Int) := by omega
      go_wp2
      go_region_held3 (fun w' => w'.cell? ⟨w.heap.size, 0, none⟩ = some (.slice A ns cs) ∧ w'.cell? ⟨w.heap.size, 1, none⟩ = some (.slice (some ⟨b, off, none⟩) nm cm) ∧ w'.cell? ⟨w.heap.size, 2, none⟩ = some (.int .i64 lp))
        (first
          | go_keep
          | exact ⟨(hbB.cell (p := ⟨w.heap.size, 0, none⟩) dlt).trans d0, (hbB.cell (p := ⟨w.heap.size, 1, none⟩) dlt).trans d1, (hbB.cell (p := ⟨w.heap.size, 2, none⟩) dlt).trans d2⟩
          | exact ⟨(hbA.cell (p := ⟨w.heap.size, 0, none⟩) dlt).trans d0, (hbA.cell (p := ⟨w.heap.size, 1, none⟩) dlt).trans d1, (hbA.cell (p := ⟨w.heap.size, 2, none⟩) dlt).trans d2⟩)
        (first
          | (go_at_call_of 72 (Value.int .i64 k); refine (outgoing_any _ _ _ _ _ _ _ signs k _ hsr.drew hk4 (by omega)).mono ?_; rw [H1.out]; rintro e w1 ⟨rfl, hbA⟩)
          | (go_at_call_of 72 (Value.int .i64 m); refine (outgoing_any _ _ _ _ _ _ _ signs m _ (hsr.drew.keep hbA) hm4 (by omega)).mono ?_; rw [H2.out]; rintro e w2 ⟨rfl, hbA2⟩; have hbB := below_step hbA hbA2))
      go_wp2
      go_roundw
      case rel => exact ⟨k + 1, by omega, by go_num, hbr.trans ((below_drew_left hbB).mono hbr.size)⟩
      case measure => simp [intOf]; omega
    · obtain rfl : k = h0 := by omega
      clear hg
      by_cases hlt : k < nm
      · have hb := hbad hlt
        have hr0 := hrange k hlt
        clear hbad
        obtain ⟨b, off, rfl, hbb, hc⟩ := hmr.2 (by omega)
        have hck : wr.cell? ⟨b, off + k, none⟩ = some (.int .i64 (mt mate k)) := hc k hlt
        obtain rfl : r = false := by rw [HR.out]; simp only [decide_eq_false_iff_not]; omega
        clear HR
        have hk0 : (0 : Int) ≤ (k : Int) := Int.natCast_nonneg _
        have hk1 : (k : Int) < (nm : Int) := by omega
        have hcase := pOK_bad hb HML.out
        clear hb
        rcases hcase with hneg | hbig | ⟨m, hmk, hmlt, hrest⟩
        · have hx1 : decide (mt mate k < 0) = true := by simp only [decide_eq_true_eq]; omega
          clear hc hrange
          generalize mt mate k = x at hck hneg hx1 hr0
          obtain ⟨hr1, hr2⟩ := hr0
          go_wp2
          go_ret
          exact ⟨rfl, hb0.trans (hbr.mono hb0.size)⟩
        · have hx1 : decide (mt mate k < 0) = false := by simp only [decide_eq_false_iff_not]; omega
          have hx2 : decide ((nm : Int) ≤ mt mate k) = true := by simp only [decide_eq_true_eq]; omega
          clear hc hrange
          generalize mt mate k = x at hck hbig hx1 hx2 hr0
          obtain ⟨hr1, hr2⟩ := hr0
          go_wp2
          go_ret
          exact ⟨rfl, hb0.trans (hbr.mono hb0.size)⟩
        · have hcm : wr.cell? ⟨b, off + m, none⟩ = some (.int .i64 (mt mate m)) := hc m hmlt
          have hrm : -9223372036854775808 ≤ mt mate m ∧ mt mate m ≤ 9223372036854775807 := by
            exact hrange m hmlt
          rw [hmk] at hck
          clear hc hmk hr0 hrange
          have hm0 : (0 : Int) ≤ (m : Int) := Int.natCast_nonneg _
          have hm0' : decide ((m : Int) < 0) = false := by simp only [decide_eq_false_iff_not]; omega
          have hm1'' : decide (nm ≤ m) = false := by simp only [decide_eq_false_iff_not]; omega
          have hm1' : (m : Int) < (nm : Int) := by omega
          rcases hrest with hne | ⟨heq, hout⟩
          · have hx : (mt mate m != (k : Int)) = true := by simp [hne]
            generalize mt mate m = x at hcm hx hne hrm
            go_wp2
            go_ret
            exact ⟨rfl, hb0.trans (hbr.mono hb0.size)⟩
          · rw [heq] at hcm
            have hk4 : k / 4 < ns := by have := HNM.out; omega
            have hm4 : m / 4 < ns := by have := HNM.out; omega
            have H1 : Calls_out signs k (outB signs k) := rfl
            generalize outB signs k = p at hout H1
            have H2 := Lib.hid hout
            clear hout heq hrm
            go_wp2
            go_region_held3 (fun w' => w'.cell? ⟨w.heap.size, 0, none⟩ = some (.slice A ns cs) ∧ w'.cell? ⟨w.heap.size, 1, none⟩ = some (.slice (some ⟨b, off, none⟩) nm cm) ∧ w'.cell? ⟨w.heap.size, 2, none⟩ = some (.int .i64 lp))
              (first
                | go_keep
                | exact ⟨(hbB.cell (p := ⟨w.heap.size, 0, none⟩) dlt).trans d0, (hbB.cell (p := ⟨w.heap.size, 1, none⟩) dlt).trans d1, (hbB.cell (p := ⟨w.heap.size, 2, none⟩) dlt).trans d2⟩
                | exact ⟨(hbA.cell (p := ⟨w.heap.size, 0, none⟩) dlt).trans d0, (hbA.cell (p := ⟨w.heap.size, 1, none⟩) dlt).trans d1, (hbA.cell (p := ⟨w.heap.size, 2, none⟩) dlt).trans d2⟩)
              (first
                | (go_at_call_of 72 (Value.int .i64 k); refine (outgoing_any _ _ _ _ _ _ _ signs k _ hsr.drew hk4 (by omega)).mono ?_; rw [H1.out]; rintro e w1 ⟨rfl, hbA⟩)
                | (go_at_call_of 72 (Value.int .i64 m); refine (outgoing_any _ _ _ _ _ _ _ signs m _ (hsr.drew.keep hbA) hm4 (by omega)).mono ?_; rw [H2.out]; rintro e w2 ⟨rfl, hbA2⟩; have hbB := below_step hbA hbA2))
            go_wp2
            go_ret
            exact ⟨rfl, hb0.trans ((hbr.trans ((below_drew_left hbB).mono hbr.size)).mono hb0.size)⟩
      · obtain rfl : r = true := by rw [HR.out]; simp only [decide_eq_true_eq]; omega
        clear hbad hrange HR
        go_wp2
        go_ret
        exact ⟨rfl, hb0.trans (hbr.mono hb0.size)⟩

theorem paired_any (A B : Option Addr) (ns cs nm cm : Nat) (lp : Int) (signs mate : List Int) (w : World) (hs : RI w A ns signs) (hm : RI w B nm mate) (hnm : nm = 4 * ns) (hns : ns ≤ 64)
    (hrange : ∀ j, j < nm → -9223372036854775808 ≤ mt mate j ∧ mt mate j ≤ 9223372036854775807) :
    Calls Try.prog 64 #[dval A ns cs B nm cm lp] w fun e w' => e = .returned (.bool (pairB signs mate)) ∧ Below w.heap.size w w' := by
  by_cases hg : ∀ j, j < nm → pOK signs mate j = true
  · have e : pairB signs mate = true := (pairB_iff _ _).2 (by rw [hm.1]; exact hg)
    rw [e]
    exact paired_upto nm A B ns cs nm cm lp signs mate w hs hm hnm hns (Nat.le_refl _) hg (fun h => absurd h (by omega)) hrange true (by simp)
  · have e : pairB signs mate = false := by
      cases h : pairB signs mate with
      | false => rfl
      | true => exact absurd (by rw [← hm.1]; exact (pairB_iff _ _).1 h) hg
    rw [e]
    obtain ⟨j0, h1, h2, h3⟩ := least_bad (pOK signs mate) nm hg
    exact paired_upto j0 A B ns cs nm cm lp signs mate w hs hm hnm hns (by omega) h2 (fun _ => h3) hrange false (by simp; omega)

end Go.Proofs.Ytkfjledhnakfoaa

/- Plain mathematics: union-find and connected components. -/
namespace Go.Proofs.Ytkfjledhnakfoaa

def upd (L : Nat → Nat) (j v : Nat) : Nat → Nat := fun i => if i = j then v else L i
theorem upd_same (L : Nat → Nat) (j v : Nat) : upd L j v j = v := by simp [upd]
theorem upd_other (L : Nat → Nat) (j v i : Nat) (h : i ≠ j) : upd L j v i = L i := by simp [upd, h]

/-- The root of c. -/
def root (L : Nat → Nat) (c : Nat) : Nat := if L c < c then root L (L c) else c
  termination_by c

theorem root_le (L : Nat → Nat) (c : Nat) : root L c ≤ c := by
  induction c using Nat.strongRecOn with
  | ind c ih =>
    rw [root]; split
    · rename_i h; exact Nat.le_of_lt (Nat.lt_of_le_of_lt (ih _ h) h)
    · exact Nat.le_refl _
theorem root_fix (L : Nat → Nat) (c : Nat) (h : ¬ L c < c) : root L c = c := by rw [root, if_neg h]
theorem root_step (L : Nat → Nat) (c : Nat) (h : L c < c) : root L c = root L (L c) := by rw [root, if_pos h]
theorem root_is (L : Nat → Nat) (c : Nat) : ¬ L (root L c) < root L c := by
  induction c using Nat.strongRecOn with
  | ind c ih =>
    by_cases h : L c < c
    · rw [root_step L c h]; exact ih _ h
    · rw [root_fix L c h]; exact h
theorem root_root (L : Nat → Nat) (c : Nat) : root L (root L c) = root L c := root_fix L _ (root_is L c)

theorem root_union (L : Nat → Nat) (lo hi : Nat) (hlt : lo < hi) (hlo : ¬ L lo < lo) (hhi : ¬ L hi < hi) (c : Nat) :
    root (upd L hi lo) c = if root L c = hi then lo else root L c := by
  have hl : root (upd L hi lo) lo = lo := root_fix _ _ (by rw [upd_other _ _ _ _ (by omega)]; exact hlo)
  induction c using Nat.strongRecOn with
  | ind c ih =>
    by_cases e : c = hi
    · subst e
      rw [root_step _ _ (by rw [upd_same]; exact hlt), upd_same, hl, root_fix L c hhi, if_pos rfl]
    · by_cases h : L c < c
      · rw [root_step _ _ (by rw [upd_other _ _ _ _ e]; exact h), upd_other _ _ _ _ e, ih _ h, root_step L c h]
      · rw [root_fix _ _ (by rw [upd_other _ _ _ _ e]; exact h), root_fix L c h, if_neg e]

theorem root_compress (L : Nat → Nat) (c i : Nat) : root (upd L c (root L c)) i = root L i := by
  induction i using Nat.strongRecOn with
  | ind i ih =>
    by_cases e : i = c
    · subst e
      by_cases h : L i < i
      · have hr : root L i < i := by
          rw [root_step L i h]; exact Nat.lt_of_le_of_lt (root_le _ _) h
        rw [root_step _ _ (by rw [upd_same]; exact hr), upd_same, ih _ hr, root_root]
      · rw [root_fix _ _ (by rw [upd_same, root_fix L i h]; omega), root_fix L i h]
    · by_cases h : L i < i
      · rw [root_step _ _ (by rw [upd_other _ _ _ _ e]; exact h), upd_other _ _ _ _ e, ih _ h, root_step L i h]
      · rw [root_fix _ _ (by rw [upd_other _ _ _ _ e]; exact h), root_fix L i h]

/-- a and b are joined by edges; m: the mates of the half-edges below N. -/
inductive Conn (m : Nat → Nat) (N : Nat) : Nat → Nat → Prop
  | refl (a : Nat) : Conn m N a a
  | step {a : Nat} (h : Nat) : h < N → Conn m N a (h / 4) → Conn m N a (m h / 4)
  | back {a : Nat} (h : Nat) : h < N → Conn m N a (m h / 4) → Conn m N a (h / 4)
theorem Conn.trans {m : Nat → Nat} {N a b c : Nat} (h : Conn m N a b) (k : Conn m N b c) : Conn m N a c := by
  induction k with
  | refl => exact h
  | step i hi _ ih => exact .step i hi ih
  | back i hi _ ih => exact .back i hi ih
theorem Conn.symm {m : Nat → Nat} {N a b : Nat} (h : Conn m N a b) : Conn m N b a := by
  induction h with
  | refl => exact .refl _
  | step i hi _ ih => exact (Conn.back i hi (.refl _)).trans ih
  | back i hi _ ih => exact (Conn.step i hi (.refl _)).trans ih

/-- F is the least number of each component. -/
def IsLab (m : Nat → Nat) (N n : Nat) (F : Nat → Nat) : Prop := (∀ c, c < n → F c ≤ c ∧ Conn m N c (F c)) ∧ ∀ h, h < N → F (h / 4) = F (m h / 4)
theorem IsLab.conn {m : Nat → Nat} {N n : Nat} {F : Nat → Nat} (h : IsLab m N n F) {a b : Nat} (hc : Conn m N a b) : F a = F b := by
  induction hc with
  | refl => rfl
  | step i hi _ ih => rw [ih, h.2 i hi]
  | back i hi _ ih => rw [ih, h.2 i hi]
theorem IsLab.unique {m : Nat → Nat} {N n : Nat} {F G : Nat → Nat} (h : IsLab m N n F) (k : IsLab m N n G) (c : Nat) (hc : c < n) : F c = G c := by
  obtain ⟨f1, f2⟩ := h.1 c hc
  obtain ⟨g1, g2⟩ := k.1 c hc
  have e1 : F c = F (G c) := h.conn g2
  have e2 : G c = G (F c) := k.conn f2
  have := (h.1 (G c) (by omega)).1
  have := (k.1 (F c) (by omega)).1
  omega

/-- The union step at half-edge h, and the forest after the first k half-edges. -/
def ufStep (m : Nat → Nat) (L : Nat → Nat) (h : Nat) : Nat → Nat :=
  upd L (max (root L (h / 4)) (root L (m h / 4))) (min (root L (h / 4)) (root L (m h / 4)))
def ufAt (m : Nat → Nat) : Nat → Nat → Nat
  | 0 => fun i => i
  | k + 1 => ufStep m (ufAt m k) k
def ufLab (m : Nat → Nat) (N : Nat) (c : Nat) : Nat := root (ufAt m N) c

theorem root_ufStep (m : Nat → Nat) (L : Nat → Nat) (h c : Nat) :
    root (ufStep m L h) c = if root L c = max (root L (h / 4)) (root L (m h / 4)) then min (root L (h / 4)) (root L (m h / 4)) else root L c := by
  have ha := root_is L (h / 4)
  have hb := root_is L (m h / 4)
  unfold ufStep
  generalize root L (h / 4) = a at *
  generalize root L (m h / 4) = b at *
  rcases Nat.lt_trichotomy a b with hlt | rfl | hgt
  · rw [Nat.max_eq_right (by omega), Nat.min_eq_left (by omega)]; exact root_union L a b hlt ha hb c
  · rw [Nat.max_self, Nat.min_self]
    have : root (upd L a a) c = root L c := by
      have h0 : root L a = a := root_fix L a ha
      have := root_compress L a c
      rwa [h0] at this
    rw [this]; split <;> simp_all
  · rw [Nat.max_eq_left (by omega), Nat.min_eq_right (by omega)]; exact root_union L b a hgt hb ha c

theorem ufAt_conn (m : Nat → Nat) (N k : Nat) (hk : k ≤ N) (c : Nat) : Conn m N c (root (ufAt m k) c) := by
  induction k generalizing c with
  | zero => rw [root_fix _ _ (by simp [ufAt])]; exact .refl _
  | succ k ih =>
    show Conn m N c (root (ufStep m (ufAt m k) k) c)
    rw [root_ufStep]
    have h0 := ih (by omega)
    have e : Conn m N (root (ufAt m k) (k / 4)) (root (ufAt m k) (m k / 4)) :=
      ((h0 _).symm.trans (Conn.step k (by omega) (.refl _))).trans (h0 _)
    split
    · rename_i hc
      have hcc := h0 c
      rw [hc] at hcc
      refine hcc.trans ?_
      rcases Nat.le_total (root (ufAt m k) (k / 4)) (root (ufAt m k) (m k / 4)) with hle | hle
      · rw [Nat.max_eq_right hle, Nat.min_eq_left hle]; exact e.symm
      · rw [Nat.max_eq_left hle, Nat.min_eq_right hle]; exact e
    · exact h0 c

theorem ufAt_joins (m : Nat → Nat) (k h : Nat) (hh : h < k) : root (ufAt m k) (h / 4) = root (ufAt m k) (m h / 4) := by
  induction k with
  | zero => omega
  | succ k ih =>
    show root (ufStep m (ufAt m k) k) _ = root (ufStep m (ufAt m k) k) _
    rw [root_ufStep, root_ufStep]
    by_cases e : h = k
    · subst e
      rcases Nat.le_total (root (ufAt m h) (h / 4)) (root (ufAt m h) (m h / 4)) with hle | hle
      · rw [Nat.max_eq_right hle, Nat.min_eq_left hle]; simp only [if_pos]; split <;> rfl
      · rw [Nat.max_eq_left hle, Nat.min_eq_right hle]; simp only [if_pos]; split <;> simp_all
    · rw [ih (by omega)]

theorem ufLab_isLab (m : Nat → Nat) (N n : Nat) : IsLab m N n (ufLab m N) :=
  ⟨fun c _ => ⟨root_le _ _, ufAt_conn m N N (Nat.le_refl _) c⟩, fun h hh => ufAt_joins m N h hh⟩

theorem ufAt_le (m : Nat → Nat) (k i : Nat) : ufAt m k i ≤ i := by
  induction k generalizing i with
  | zero => exact Nat.le_refl _
  | succ k ih =>
    show upd _ _ _ i ≤ i
    unfold upd
    split
    · rename_i e; rw [e]; omega
    · exact ih i

/-- The compression of the first k numbers. -/
def compAt (L : Nat → Nat) (k : Nat) : Nat → Nat := fun i => if i < k then root L i else L i
theorem root_comp (L : Nat → Nat) (k i : Nat) : root (compAt L k) i = root L i := by
  induction i using Nat.strongRecOn with
  | ind i ih =>
    by_cases hk : i < k
    · have e : compAt L k i = root L i := by simp [compAt, hk]
      by_cases h : root L i < i
      · rw [root_step _ _ (by rw [e]; exact h), e, ih _ h, root_root]
      · rw [root_fix _ _ (by rw [e]; exact h)]
        have := root_le L i; omega
    · have e : compAt L k i = L i := by simp [compAt, hk]
      by_cases h : L i < i
      · rw [root_step _ _ (by rw [e]; exact h), e, ih _ h, root_step L i h]
      · rw [root_fix _ _ (by rw [e]; exact h), root_fix L i h]
theorem comp_zero (L : Nat → Nat) : compAt L 0 = L := by funext i; simp [compAt]
theorem comp_succ (L : Nat → Nat) (k : Nat) : upd (compAt L k) k (root (compAt L k) k) = compAt L (k + 1) := by
  funext i
  unfold upd
  split
  · rename_i e; subst e; rw [root_comp]; simp [compAt]
  · rename_i e
    unfold compAt
    by_cases h : i < k
    · rw [if_pos h, if_pos (by omega)]
    · rw [if_neg h, if_neg (by omega)]
theorem comp_le (L : Nat → Nat) (hL : ∀ i, L i ≤ i) (k i : Nat) : compAt L k i ≤ i := by
  unfold compAt; split
  · exact root_le _ _
  · exact hL i

end Go.Proofs.Ytkfjledhnakfoaa
