/- Walk: the reference's Place. -/
import Derived.Test.YtkfjledhnakfoaaA15
import Derived.Test.YtkfjledhnakfoaaA12
import Derived.Test.YtkfjledhnakfoaaA09
namespace Go.Proofs.Ytkfjledhnakfoaa
open Go.RowKit

set_option maxHeartbeats 3200000 in
set_option maxRecDepth 100000 in
theorem rplace_any (A B : Option Addr) (ns cs nm cm : Nat) (lp x : Int) (s m : List Int) (w : World) (h : DV w A ns B nm s m) (hv : validB s m lp = true) (hlo : -9223372036854775808 ≤ x) (hhi : x ≤ 9223372036854775807) :
    Calls Try.prog 35 #[dval A ns cs B nm cm lp, .int .i64 x] w fun e w' => e = .returned (.bool (placeV s m lp x)) ∧ Below w.heap.size w w' := by
  obtain ⟨en, n64, _, lo, hi⟩ := cn_data hv h.hs.1 h.hm.1
  have kb : nm ≤ 256 := by omega
  obtain ⟨d0, d1, d2, dlt⟩ := DB.new w A ns cs B nm cm lp
  have hb0 := below_alloc w (dbox A ns cs B nm cm lp)
  have HB := Lib.hid hb0
  have H := Lib.hid (h.keep hb0)
  have hlm := h.hm.1
  by_cases hx : x = -1
  · subst hx
    have ho : outV s m lp (-1) = false := by unfold outV; simp
    by_cases hp : 0 < lp
    · have HE : Hid (placeV s m lp (-1) = true) := Lib.hid (by unfold placeV; rw [ho]; simp [hp])
      clear h hv en hlm ho
      go_enter Try.func35, Try.ntmps35
      go_wp2
      go_ret
      exact ⟨ret_bool HE.out.symm, HB.out⟩
    · have HE : Hid (placeV s m lp (-1) = false) := Lib.hid (by unfold placeV; rw [ho]; simp [hp])
      clear h hv en hlm ho
      go_enter Try.func35, Try.ntmps35
      go_wp2
      go_ret
      exact ⟨ret_bool HE.out.symm, HB.out⟩
  · have hx1 : (x == -1) = false := by simp only [beq_eq_false_iff_ne, ne_eq]; exact hx
    by_cases h0 : 0 ≤ x
    · by_cases h1 : x < (nm : Int)
      · obtain ⟨k, rfl⟩ := Int.eq_ofNat_of_zero_le h0
        have HE : Hid (placeV s m lp (k : Nat) = outB s k) := Lib.hid (by
          unfold placeV outV
          rw [hv, hlm]
          have e1 : decide ((0 : Int) ≤ ((k : Nat) : Int) ∧ ((k : Nat) : Int) < ((nm : Nat) : Int)) = true := decide_eq_true ⟨h0, h1⟩
          have e2 : decide (((k : Nat) : Int) = -1) = false := decide_eq_false hx
          rw [e1, e2]; simp)
        have CO := Lib.hid (rout_any A ns cs s k _ H.out.hs (by omega) (by omega))
        clear h hv en hlm
        go_enter Try.func35, Try.ntmps35
        go_wp2_with (go_at_call 57; ((with_reducible refine CO.out.mono ?_); rintro e w1 ⟨rfl, hw1⟩; obtain rfl := hw1))
        go_ret
        exact ⟨ret_bool HE.out.symm, HB.out⟩
      · have HE : Hid (placeV s m lp x = false) := Lib.hid (by
          unfold placeV outV
          rw [hlm]
          have e1 : decide ((0 : Int) ≤ x ∧ x < ((nm : Nat) : Int)) = false := decide_eq_false fun q => h1 q.2
          have e2 : decide (x = -1) = false := decide_eq_false hx
          rw [e1, e2]; simp)
        clear h hv en hlm
        go_enter Try.func35, Try.ntmps35
        go_wp2
        go_ret
        exact ⟨ret_bool HE.out.symm, HB.out⟩
    · have HE : Hid (placeV s m lp x = false) := Lib.hid (by
        unfold placeV outV
        have e1 : decide ((0 : Int) ≤ x ∧ x < ((m.length : Nat) : Int)) = false := decide_eq_false fun q => h0 q.1
        have e2 : decide (x = -1) = false := decide_eq_false hx
        rw [e1, e2]; simp)
      clear h hv en hlm
      go_enter Try.func35, Try.ntmps35
      go_wp2
      go_ret
      exact ⟨ret_bool HE.out.symm, HB.out⟩

end Go.Proofs.Ytkfjledhnakfoaa
