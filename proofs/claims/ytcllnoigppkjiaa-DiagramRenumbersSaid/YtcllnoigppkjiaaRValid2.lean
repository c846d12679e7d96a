/- The reference's Valid, for every diagram; Out. -/
import Derived.Test.YtcllnoigppkjiaaRValid
namespace Go.Proofs.Ytcllnoigppkjiaa
open Go.RowKit

set_option maxHeartbeats 1600000 in
set_option maxRecDepth 100000 in
theorem rvalid_lim (A B : Option Addr) (ns cs nm cm : Nat) (lp : Int) (w : World) (hns : ns ≤ 100000000000000) (hnm : nm ≤ 100000000000000) (hl : limB ns nm lp = false) :
    Calls Try.prog 17 #[dval A ns cs B nm cm lp] w fun e w' => e = .returned (.bool false) ∧ Below w.heap.size w w' := by
  by_cases h1 : ns ≤ 64
  · by_cases h2 : nm = 4 * ns
    · subst h2
      by_cases h3 : 0 ≤ lp
      · have h4' : 64 < lp := by
          by_cases h4 : lp ≤ 64
          · simp [limB, *] at hl
          · omega
        clear hl
        go_enter Try.func17, Try.ntmps17
        go_wp2
        go_ret
        exact ⟨rfl, below_alloc _ _⟩
      · have h4' : lp < 0 := by omega
        clear hl h3
        go_enter Try.func17, Try.ntmps17
        go_wp2
        go_ret
        exact ⟨rfl, below_alloc _ _⟩
    · have h4 : ((nm : Int) != 4 * (ns : Int)) = true := by simp only [bne_iff_ne, ne_eq]; omega
      clear hl h2
      go_enter Try.func17, Try.ntmps17
      go_wp2
      go_ret
      exact ⟨rfl, below_alloc _ _⟩
  · have h4' : 64 < ns := by omega
    clear hl h1
    go_enter Try.func17, Try.ntmps17
    go_wp2
    go_ret
    exact ⟨rfl, below_alloc _ _⟩

theorem DV.rvalid {w : World} {A B : Option Addr} {ns nm : Nat} {signs mate : List Int} (h : DV w A ns B nm signs mate) (cs cm : Nat) (lp : Int) (r : Bool) (hr : validB signs mate lp = r) :
    Calls Try.prog 17 #[dval A ns cs B nm cm lp] w fun e w' => e = .returned (.bool r) ∧ Below w.heap.size w w' := by
  cases hl : limB ns nm lp with
  | true =>
    obtain ⟨l1, l2, l3, l4⟩ := limB_out hl
    exact rvalid_main r A B ns cs nm cm lp signs mate w h l1 l2 l3 l4 hr.symm
  | false =>
    have : r = false := by
      rw [← hr]; exact validB_lim (by rw [h.hs.1, h.hm.1]; exact hl)
    subst this
    exact rvalid_lim A B ns cs nm cm lp w h.hns h.hnm hl


end Go.Proofs.Ytcllnoigppkjiaa
