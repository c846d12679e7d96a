/- Walk: Valid. -/
import Derived.Test.YtcllnoigppkjiaaSph
namespace Go.Proofs.Ytcllnoigppkjiaa
open Go.RowKit

def matesOf (mate : List Int) : Nat → Nat := fun h => (mt mate h).toNat
theorem matesOf_mates {signs mate : List Int} {nm : Nat} (h : pairB signs mate = true) (hl : mate.length = nm) : Mates mate nm (matesOf mate) := fun j hj => by
  obtain ⟨m, h1, h2, _⟩ := pOK_out ((pairB_iff _ _).1 h j (by omega)) hl
  have e : matesOf mate j = m := by unfold matesOf; rw [h1]; simp
  rw [e]; exact ⟨h1, h2⟩
theorem matesOf_invol {signs mate : List Int} {nm : Nat} (h : pairB signs mate = true) (hl : mate.length = nm) : Invol (matesOf mate) nm :=
  ⟨fun j hj => (matesOf_mates h hl j hj).2, fun j hj => by
    obtain ⟨m, h1, h2, h3, _⟩ := pOK_out ((pairB_iff _ _).1 h j (by omega)) hl
    have e : matesOf mate j = m := by unfold matesOf; rw [h1]; simp
    have e2 : matesOf mate m = j := by unfold matesOf; rw [h3]; simp
    rw [e, e2]⟩

/-- The mates and their labels. -/
def sphM (mate : List Int) (n : Nat) : Bool := sphB (ufLab (matesOf mate) mate.length) (ff (matesOf mate)) mate.length n
def validB (signs mate : List Int) (lp : Int) : Bool := limB signs.length mate.length lp && sgnsB signs && pairB signs mate && sphM mate signs.length
theorem limB_out {ns nm : Nat} {lp : Int} (h : limB ns nm lp = true) : ns ≤ 64 ∧ nm = 4 * ns ∧ 0 ≤ lp ∧ lp ≤ 64 := by
  unfold limB at h; simp only [Bool.and_eq_true, decide_eq_true_eq] at h; omega

set_option maxHeartbeats 1600000 in
theorem valid_any (A B : Option Addr) (ns cs nm cm : Nat) (lp : Int) (signs mate : List Int) (w : World) (hs : RI w A ns signs) (hm : RI w B nm mate) (hns : ns ≤ 100000000000000) (hnm : nm ≤ 100000000000000)
    (hrange : ∀ j, j < nm → -9223372036854775808 ≤ mt mate j ∧ mt mate j ≤ 9223372036854775807) :
    Calls Try.prog 16 #[dval A ns cs B nm cm lp] w fun e w' => e = .returned (.bool (validB signs mate lp)) ∧ Below w.heap.size w w' := by
  have hd := DB.new w A ns cs B nm cm lp
  obtain ⟨d0, d1, d2, dlt⟩ := hd
  have hb0 := below_alloc w (dbox A ns cs B nm cm lp)
  have hs1 := hs.alloc (dbox A ns cs B nm cm lp)
  have hm1 := hm.alloc (dbox A ns cs B nm cm lp)
  have hls := hs.1
  have hlm := hm.1
  have HC1 := Lib.hid (limits_any A B ns cs nm cm lp (w.alloc (dbox A ns cs B nm cm lp)) (by omega) (by omega))
  have hv : validB signs mate lp = (limB ns nm lp && sgnsB signs && pairB signs mate && sphM mate ns) := by unfold validB; rw [hls, hlm]
  rw [hv]
  clear hv
  cases h1 : limB ns nm lp with
  | false =>
    simp only [Bool.false_and]
    rw [h1] at HC1
    clear hrange hls hlm h1
    go_enter Try.func16, Try.ntmps16
    go_wp2_with (go_at_call 44; ((with_reducible refine HC1.out.mono ?_); rintro e w1 ⟨rfl, hb1⟩))
    go_ret
    exact ⟨rfl, below_step hb0 hb1⟩
  | true =>
    obtain ⟨hns64, hnm4, hlp0, hlp1⟩ := limB_out h1
    rw [h1] at HC1
    have HC2 : ∀ w1 : World, Below (w.alloc (dbox A ns cs B nm cm lp)).heap.size (w.alloc (dbox A ns cs B nm cm lp)) w1 → Hid (Calls Try.prog 45 #[.slice A ns cs] w1 fun e w' => e = .returned (.bool (sgnsB signs)) ∧ w1 = w') :=
      fun w1 hb => signs_any A ns cs signs w1 (hs1.keep hb) (by omega)
    simp only [Bool.true_and]
    cases h2 : sgnsB signs with
    | false =>
      simp only [Bool.false_and]
      rw [h2] at HC2
      clear hrange hls hlm h1 hnm4
      go_enter Try.func16, Try.ntmps16
      go_wp2_with (first
        | (go_at_call 44; ((with_reducible refine HC1.out.mono ?_); rintro e w1 ⟨rfl, hb1⟩; have hc0 := (hb1.cell (p := ⟨w.heap.size, 0, none⟩) dlt).trans d0; have hc1 := (hb1.cell (p := ⟨w.heap.size, 1, none⟩) dlt).trans d1; have hc2 := (hb1.cell (p := ⟨w.heap.size, 2, none⟩) dlt).trans d2))
        | (go_at_call 45; ((with_reducible refine (HC2 _ hb1).out.mono ?_); rintro e w2 ⟨rfl, rfl⟩)))
      go_ret
      exact ⟨rfl, below_step hb0 hb1⟩
    | true =>
      rw [h2] at HC2
      have HC3 : ∀ w1 : World, Below (w.alloc (dbox A ns cs B nm cm lp)).heap.size (w.alloc (dbox A ns cs B nm cm lp)) w1 → Hid (Calls Try.prog 46 #[dval A ns cs B nm cm lp] w1 fun e w' => e = .returned (.bool (pairB signs mate)) ∧ Below w1.heap.size w1 w') :=
        fun w1 hb => paired_any A B ns cs nm cm lp signs mate w1 (hs1.keep hb) (hm1.keep hb) hnm4 hns64 hrange
      simp only [Bool.true_and]
      cases h3 : pairB signs mate with
      | false =>
        simp only [Bool.false_and]
        rw [h3] at HC3
        clear hrange hls hlm h1 hnm4
        go_enter Try.func16, Try.ntmps16
        go_wp2_with (first
          | (go_at_call 44; ((with_reducible refine HC1.out.mono ?_); rintro e w1 ⟨rfl, hb1⟩; have hc0 := (hb1.cell (p := ⟨w.heap.size, 0, none⟩) dlt).trans d0; have hc1 := (hb1.cell (p := ⟨w.heap.size, 1, none⟩) dlt).trans d1; have hc2 := (hb1.cell (p := ⟨w.heap.size, 2, none⟩) dlt).trans d2))
          | (go_at_call 45; ((with_reducible refine (HC2 _ hb1).out.mono ?_); rintro e w2 ⟨rfl, rfl⟩))
          | (go_at_call 46; ((with_reducible refine (HC3 _ hb1).out.mono ?_); rintro e w3 ⟨rfl, hb3⟩)))
        go_ret
        exact ⟨rfl, below_step hb0 (below_step hb1 hb3)⟩
      | true =>
        have HC4 : ∀ w1 : World, Below (w.alloc (dbox A ns cs B nm cm lp)).heap.size (w.alloc (dbox A ns cs B nm cm lp)) w1 → Hid (Calls Try.prog 47 #[dval A ns cs B nm cm lp] w1 fun e w' => e = .returned (.bool (sphM mate ns)) ∧ Below w1.heap.size w1 w') :=
          fun w1 hb => by
            have := sph_any A B ns cs nm cm lp mate (matesOf mate) w1 (hm1.keep hb) hns64 hnm4 (matesOf_mates h3 hlm) (matesOf_invol h3 hlm)
            rw [← hlm] at this ⊢
            exact this
        simp only [Bool.true_and]
        rw [h3] at HC3
        clear hrange hls hlm h1 hnm4 h2 h3
        go_enter Try.func16, Try.ntmps16
        go_wp2_with (first
          | (go_at_call 44; ((with_reducible refine HC1.out.mono ?_); rintro e w1 ⟨rfl, hb1⟩; have hc0 := (hb1.cell (p := ⟨w.heap.size, 0, none⟩) dlt).trans d0; have hc1 := (hb1.cell (p := ⟨w.heap.size, 1, none⟩) dlt).trans d1; have hc2 := (hb1.cell (p := ⟨w.heap.size, 2, none⟩) dlt).trans d2))
          | (go_at_call 45; ((with_reducible refine (HC2 _ hb1).out.mono ?_); rintro e w2 ⟨rfl, rfl⟩))
          | (go_at_call 46; ((with_reducible refine (HC3 _ hb1).out.mono ?_); rintro e w3 ⟨rfl, hb3⟩; have hb13 := below_step hb1 hb3; have hc0 := (hb13.cell (p := ⟨w.heap.size, 0, none⟩) dlt).trans d0; have hc1 := (hb13.cell (p := ⟨w.heap.size, 1, none⟩) dlt).trans d1; have hc2 := (hb13.cell (p := ⟨w.heap.size, 2, none⟩) dlt).trans d2))
          | (go_at_call 47; ((with_reducible refine (HC4 _ hb13).out.mono ?_); rintro e w4 ⟨rfl, hb4⟩)))
        go_ret
        exact ⟨rfl, below_step hb0 (below_step hb13 hb4)⟩

end Go.Proofs.Ytcllnoigppkjiaa
