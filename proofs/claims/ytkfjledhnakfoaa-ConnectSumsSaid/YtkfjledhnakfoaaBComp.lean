/- Walk: Components. -/
import Derived.Test.YtkfjledhnakfoaaA15
namespace Go.Proofs.Ytkfjledhnakfoaa
open Go.RowKit

set_option maxHeartbeats 1600000 in
theorem components_any (A B : Option Addr) (ns cs nm cm : Nat) (lp : Int) (signs mate : List Int) (w : World) (h : DV w A ns B nm signs mate) :
    Calls Try.prog 19 #[dval A ns cs B nm cm lp] w fun e w' => e = .returned (.int .i64 (compM signs mate lp)) ∧ Below w.heap.size w w' := by
  have hd := DB.new w A ns cs B nm cm lp
  obtain ⟨d0, d1, d2, dlt⟩ := hd
  have hb0 := below_alloc w (dbox A ns cs B nm cm lp)
  have hls := h.hs.1
  have hlm := h.hm.1
  cases hv : validB signs mate lp with
  | false =>
    have e : compM signs mate lp = 0 := by simp [compM, hv]
    rw [e]
    have CV := Lib.hid ((h.keep hb0).valid cs cm lp false hv)
    clear e hv hls hlm
    go_enter Try.func19, Try.ntmps19
    go_wp2_with (go_at_call 18; ((with_reducible refine CV.out.mono ?_); rintro e w1 ⟨rfl, hb1⟩))
    go_ret
    exact ⟨rfl, below_step hb0 hb1⟩
  | true =>
    have CV := Lib.hid ((h.keep hb0).valid cs cm lp true hv)
    obtain ⟨v1, v2, v3, v4⟩ := validB_out hv
    rw [hls, hlm] at v1
    obtain ⟨l1, l2, l3, l4⟩ := limB_out v1
    have hsl := strandsM_le (signs := signs) (mate := mate) (lp := lp)
    rw [compM_add hv]
    have H := Lib.hid h
    have CS : ∀ W : World, Below (w.alloc (dbox A ns cs B nm cm lp)).heap.size (w.alloc (dbox A ns cs B nm cm lp)) W → Hid (Calls Try.prog 29 #[dval A ns cs B nm cm lp] W (CycsPost W (strandsM signs mate lp))) := fun W hb =>
      strands_any A B ns cs nm cm lp signs mate W (H.out.keep (below_step hb0 hb))
    generalize strandsM signs mate lp = xss at *
    have hwr : IntKind.i64.wrap ((xss.length : Int) + lp) = (xss.length : Int) + lp := IntWalk.i64_in _ (by omega)
    clear hv hls hlm v1 v2 v3 v4 l1 l2 h
    go_enter Try.func19, Try.ntmps19
    go_upto_region 3 with (go_at_call 18; ((with_reducible refine CV.out.mono ?_); rintro e w1 ⟨rfl, hb1⟩))
    have c0 := (hb1.cell (p := ⟨w.heap.size, 0, none⟩) dlt).trans d0
    have c1 := (hb1.cell (p := ⟨w.heap.size, 1, none⟩) dlt).trans d1
    have c2 := (hb1.cell (p := ⟨w.heap.size, 2, none⟩) dlt).trans d2
    have wlt := Nat.lt_of_lt_of_le dlt hb1.size
    have hbD : Below w1.heap.size w1 w1.drew := (Below.refl _ _).drew
    go_region_held3 (fun w' => w'.cell? ⟨w.heap.size, 0, none⟩ = some (.slice A ns cs) ∧ w'.cell? ⟨w.heap.size, 1, none⟩ = some (.slice B nm cm) ∧ w'.cell? ⟨w.heap.size, 2, none⟩ = some (.int .i64 lp))
      (first
        | go_keep
        | exact ⟨(hbB.cell (p := ⟨w.heap.size, 0, none⟩) wlt).trans c0, (hbB.cell (p := ⟨w.heap.size, 1, none⟩) wlt).trans c1, (hbB.cell (p := ⟨w.heap.size, 2, none⟩) wlt).trans c2⟩)
      (first
        | (go_at_call 29; ((with_reducible refine (CS _ (below_step hb1 hbD)).out.mono ?_); rintro e w2 ⟨v, rfl, hov, hb2⟩; have hbB := below_step hbD hb2; obtain ⟨Av, cv, rfl⟩ := hov.form)))
    go_wp2
    go_ret
    exact ⟨rfl, below_step hb0 (below_step hb1 hbB)⟩

end Go.Proofs.Ytkfjledhnakfoaa
