/- Great, for every length. -/
import Derived.Test.YtcllnoigppkjiaaInts
import Derived.Test.YtcllnoigppkjiaaOpen
namespace Go.Proofs.Ytcllnoigppkjiaa
open Go.RowKit

def grB (ns nm : Nat) : Bool := decide (70 < ns) || decide (300 < nm)
set_option maxHeartbeats 400000 in
theorem great_any (A B : Option Addr) (ns cs nm cm : Nat) (lp : Int) (w : World) (hns : ns ≤ 1000000000000000) (hnm : nm ≤ 1000000000000000) :
    Calls Try.prog 12 #[dval A ns cs B nm cm lp] w fun e w' => e = .returned (.int .i64 (if grB ns nm then 1 else 0)) ∧ Below w.heap.size w w' := by
  by_cases h1 : 70 < ns
  · have e : grB ns nm = true := by simp [grB, h1]
    rw [e]; clear e
    go_enter Try.func12, Try.ntmps12
    go_wp2
    go_ret
    exact ⟨rfl, below_alloc _ _⟩
  · by_cases h2 : 300 < nm
    · have e : grB ns nm = true := by simp [grB, h2]
      rw [e]; clear e
      go_enter Try.func12, Try.ntmps12
      go_wp2
      go_ret
      exact ⟨rfl, below_alloc _ _⟩
    · have e : grB ns nm = false := by simp only [grB, h1, h2]; rfl
      rw [e]; clear e
      go_enter Try.func12, Try.ntmps12
      go_wp2
      go_ret
      exact ⟨rfl, below_alloc _ _⟩

set_option maxHeartbeats 400000 in
theorem great_big (A B : Option Addr) (ns cs nm cm : Nat) (lp : Int) (w : World) (hns : ns ≤ 9223372036854775807) (hnm : nm ≤ 9223372036854775807) (r : Bool) (hr : grB ns nm = r) :
    Calls Try.prog 12 #[dval A ns cs B nm cm lp] w fun e w' => e = .returned (.int .i64 (if r then 1 else 0)) ∧ Below w.heap.size w w' := by
  subst hr
  by_cases h1 : 70 < ns
  · have e : grB ns nm = true := by simp [grB, h1]
    rw [e]; clear e
    go_enter Try.func12, Try.ntmps12
    go_wp2
    go_ret
    exact ⟨rfl, below_alloc _ _⟩
  · by_cases h2 : 300 < nm
    · have e : grB ns nm = true := by simp [grB, h2]
      rw [e]; clear e
      go_enter Try.func12, Try.ntmps12
      go_wp2
      go_ret
      exact ⟨rfl, below_alloc _ _⟩
    · have e : grB ns nm = false := by simp only [grB, h1, h2]; rfl
      rw [e]; clear e
      go_enter Try.func12, Try.ntmps12
      go_wp2
      go_ret
      exact ⟨rfl, below_alloc _ _⟩
theorem grB_out {ns nm : Nat} (h : grB ns nm = false) : ns ≤ 70 ∧ nm ≤ 300 := by
  unfold grB at h; simp at h; omega
theorem DV.mk' {w : World} {A B : Option Addr} {ns nm : Nat} {signs mate : List Int} (hs : RI w A ns signs) (hm : RI w B nm mate) (hI : ∀ y ∈ mate, inI y) (hg : grB ns nm = false) : DV w A ns B nm signs mate := by
  obtain ⟨h1, h2⟩ := grB_out hg
  refine ⟨hs, hm, by omega, by omega, fun j hj => ?_⟩
  have hl : j < mate.length := by rw [hm.1]; exact hj
  have e : mt mate j = mate[j] := by simp [mt, List.getD, hl]
  rw [e]; exact hI _ (List.getElem_mem _)

end Go.Proofs.Ytcllnoigppkjiaa
