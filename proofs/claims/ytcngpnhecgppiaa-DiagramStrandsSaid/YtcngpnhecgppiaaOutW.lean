/- Walk: Out. -/
import Derived.Test.YtcngpnhecgppiaaDv
namespace Go.Proofs.Ytcngpnhecgppiaa
open Go.RowKit

def outV (signs mate : List Int) (lp x : Int) : Bool := validB signs mate lp && decide (0 ≤ x ∧ x < mate.length) && outB signs x.toNat

set_option maxHeartbeats 1600000 in
theorem out_any (A B : Option Addr) (ns cs nm cm : Nat) (lp x : Int) (signs mate : List Int) (w : World) (h : DV w A ns B nm signs mate) (hlo : -9223372036854775808 ≤ x) (hhi : x ≤ 9223372036854775807) (r : Bool) (hr : outV signs mate lp x = r) :
    Calls Try.prog 18 #[dval A ns cs B nm cm lp, .int .i64 x] w fun e w' => e = .returned (.bool r) ∧ Below w.heap.size w w' := by
  have hd := DB.new w A ns cs B nm cm lp
  obtain ⟨d0, d1, d2, dlt⟩ := hd
  have hb0 := below_alloc w (dbox A ns cs B nm cm lp)
  have hls := h.hs.1
  have hlm := h.hm.1
  have H := Lib.hid (h.keep hb0)
  cases hv : validB signs mate lp with
  | false =>
    have e : r = false := by rw [← hr]; simp [outV, hv]
    subst e
    have CV := Lib.hid (H.out.valid cs cm lp false hv)
    clear hr hv hls hlm
    go_enter Try.func18, Try.ntmps18
    go_wp2_with (go_at_call 14; ((with_reducible refine CV.out.mono ?_); rintro e w1 ⟨rfl, hb1⟩))
    go_ret
    exact ⟨rfl, below_step hb0 hb1⟩
  | true =>
    have CV := Lib.hid (H.out.valid cs cm lp true hv)
    obtain ⟨v1, v2, v3, v4⟩ := validB_out hv
    rw [hls, hlm] at v1
    obtain ⟨l1, l2, l3, l4⟩ := limB_out v1
    have CI : ∀ w1 : World, Hid (Calls Try.prog 46 #[dval A ns cs B nm cm lp, .int .i64 x] w1 fun e w' => e = .returned (.bool (decide (0 ≤ x ∧ x < nm))) ∧ Below w1.heap.size w1 w') :=
      fun w1 => ishalf_any A B ns cs nm cm lp x w1 hlo hhi (by omega)
    cases hx : decide (0 ≤ x ∧ x < (nm : Int)) with
    | false =>
      have e : r = false := by rw [← hr]; unfold outV; rw [hlm, hx]; simp
      subst e
      rw [hx] at CI
      clear hr hv hls hlm hx v1 v2 v3 v4 l2
      go_enter Try.func18, Try.ntmps18
      go_wp2_with (first
        | (go_at_call 14; ((with_reducible refine CV.out.mono ?_); rintro e w1 ⟨rfl, hb1⟩; have hc0 := (hb1.cell (p := ⟨w.heap.size, 0, none⟩) dlt).trans d0; have hc1 := (hb1.cell (p := ⟨w.heap.size, 1, none⟩) dlt).trans d1; have hc2 := (hb1.cell (p := ⟨w.heap.size, 2, none⟩) dlt).trans d2))
        | (go_at_call 46; ((with_reducible refine (CI _).out.mono ?_); rintro e w2 ⟨rfl, hb2⟩)))
      go_ret
      exact ⟨rfl, below_step hb0 (below_step hb1 hb2)⟩
    | true =>
      obtain ⟨x0, x1⟩ := of_decide_eq_true hx
      obtain ⟨n, rfl⟩ := Int.eq_ofNat_of_zero_le x0
      have e : r = outB signs n := by rw [← hr]; unfold outV; rw [hlm, hx, hv]; simp
      subst e
      rw [hx] at CI
      have CO : ∀ w1 : World, Below (w.alloc (dbox A ns cs B nm cm lp)).heap.size (w.alloc (dbox A ns cs B nm cm lp)) w1 → Hid (Calls Try.prog 43 #[dval A ns cs B nm cm lp, .int .i64 (n : Int)] w1 fun e w' => e = .returned (.bool (outB signs n)) ∧ Below w1.heap.size w1 w') :=
        fun w1 hb => outgoing_any A B ns cs nm cm lp signs n w1 (H.out.hs.keep hb) (by omega) (by omega)
      clear hr hv hls hlm hx v1 v2 v3 v4 l2
      go_enter Try.func18, Try.ntmps18
      go_wp2_with (first
        | (go_at_call 14; ((with_reducible refine CV.out.mono ?_); rintro e w1 ⟨rfl, hb1⟩; have hc0 := (hb1.cell (p := ⟨w.heap.size, 0, none⟩) dlt).trans d0; have hc1 := (hb1.cell (p := ⟨w.heap.size, 1, none⟩) dlt).trans d1; have hc2 := (hb1.cell (p := ⟨w.heap.size, 2, none⟩) dlt).trans d2))
        | (go_at_call 46; ((with_reducible refine (CI _).out.mono ?_); rintro e w2 ⟨rfl, hb2⟩; have hb12 := below_step hb1 hb2; have hc0 := (hb12.cell (p := ⟨w.heap.size, 0, none⟩) dlt).trans d0; have hc1 := (hb12.cell (p := ⟨w.heap.size, 1, none⟩) dlt).trans d1; have hc2 := (hb12.cell (p := ⟨w.heap.size, 2, none⟩) dlt).trans d2))
        | (go_at_call 43; ((with_reducible refine (CO _ hb12).out.mono ?_); rintro e w3 ⟨rfl, hb3⟩)))
      go_ret
      exact ⟨rfl, below_step hb0 (below_step hb12 hb3)⟩

end Go.Proofs.Ytcngpnhecgppiaa
