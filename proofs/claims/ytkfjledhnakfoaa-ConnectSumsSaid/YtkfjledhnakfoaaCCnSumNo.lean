/- Walk: Sum refuses. -/
import Derived.Test.YtkfjledhnakfoaaA16
namespace Go.Proofs.Ytkfjledhnakfoaa
open Go.RowKit

set_option maxHeartbeats 3200000 in
set_option maxRecDepth 100000 in
theorem sum_bad (A1 B1 A2 B2 : Option Addr) (n1 c1 k1 d1 n2 c2 k2 d2 : Nat) (l1 l2 x y : Int) (s1 m1 s2 m2 : List Int) (w : World) (h1 : DV w A1 n1 B1 k1 s1 m1) (h2 : DV w A2 n2 B2 k2 s2 m2) (hv : (validB s1 m1 l1 && validB s2 m2 l2) = false) :
    Calls Try.prog 34 #[dval A1 n1 c1 B1 k1 d1 l1, .int .i64 x, dval A2 n2 c2 B2 k2 d2 l2, .int .i64 y] w (CnNo w 1) := by
  have hb1 := below_alloc w (dbox A1 n1 c1 B1 k1 d1 l1)
  have hb2 := below_alloc (w.alloc (dbox A1 n1 c1 B1 k1 d1 l1)) (dbox A2 n2 c2 B2 k2 d2 l2)
  have hb3 := below_alloc ((w.alloc (dbox A1 n1 c1 B1 k1 d1 l1)).alloc (dbox A2 n2 c2 B2 k2 d2 l2)) (.cells #[.slice none 0 0, .slice none 0 0, .int .i64 0] 24)
  have hd1 := ((DB.new w A1 n1 c1 B1 k1 d1 l1).keep hb2).keep hb3
  have hd2 := (DB.new (w.alloc (dbox A1 n1 c1 B1 k1 d1 l1)) A2 n2 c2 B2 k2 d2 l2).keep hb3
  have hbx := bxz_new ((w.alloc (dbox A1 n1 c1 B1 k1 d1 l1)).alloc (dbox A2 n2 c2 B2 k2 d2 l2))
  have hb := below_step (below_step hb1 hb2) hb3
  have hsz : (w.alloc (dbox A1 n1 c1 B1 k1 d1 l1)).heap.size = w.heap.size + 1 := by simp
  have hsz2 : ((w.alloc (dbox A1 n1 c1 B1 k1 d1 l1)).alloc (dbox A2 n2 c2 B2 k2 d2 l2)).heap.size = w.heap.size + 2 := by simp
  rw [hsz] at hd2
  rw [hsz2] at hbx
  have H1 := Lib.hid h1
  have H2 := Lib.hid h2
  clear hb1 hb2 hb3 hsz hsz2 h1 h2
  unfold dbox at hd1 hd2 hbx hb
  go_enter Try.func34, Try.ntmps34
  go_upto_region 1 with fail
  generalize ((w.alloc (.cells #[.slice A1 n1 c1, .slice B1 k1 d1, .int .i64 l1] 24)).alloc (.cells #[.slice A2 n2 c2, .slice B2 k2 d2, .int .i64 l2] 24)).alloc (.cells #[.slice none 0 0, .slice none 0 0, .int .i64 0] 24) = w0 at hd1 hd2 hbx hb ⊢
  rw [show w.heap.size + 1 + 1 = w.heap.size + 2 by omega]
  obtain ⟨ga, hga⟩ : ∃ ga, w.heap.size = ga := ⟨_, rfl⟩
  obtain ⟨gb, hgb⟩ : ∃ gb, w.heap.size + 1 = gb := ⟨_, rfl⟩
  obtain ⟨gr, hgr⟩ : ∃ gr, w.heap.size + 2 = gr := ⟨_, rfl⟩
  have HG : Hid (w.heap.size ≤ gr ∧ gr < w0.heap.size) := Lib.hid ⟨by omega, by rw [← hgr]; exact hbx.1.2.2.2⟩
  rw [hga] at hd1
  rw [hgb] at hd2 ⊢
  rw [hgr] at hbx ⊢
  rw [hga]
  have HB := Lib.hid hb
  have HBX := Lib.hid hbx
  obtain ⟨a0, a1, a2, alt⟩ := hd1
  obtain ⟨b0, b1, b2, blt⟩ := hd2
  have HF : ∀ W, Below w0.heap.size w0 W → Hid (W.cell? ⟨gr, 0, none⟩ = some (.slice none 0 0) ∧ W.cell? ⟨gr, 1, none⟩ = some (.slice none 0 0) ∧ W.cell? ⟨gr, 2, none⟩ = some (.int .i64 0) ∧ W.frozen? ⟨gr, 0, none⟩ = false ∧ W.frozen? ⟨gr, 1, none⟩ = false ∧ W.frozen? ⟨gr, 2, none⟩ = false) := fun W hW => by
    have h := HBX.out.kp hW
    exact Lib.hid ⟨h.1.1, h.1.2.1, h.1.2.2.1, h.2 0, h.2 1, h.2 2⟩
  have fin : ∀ W, Below w0.heap.size w0 W → Hid (CnNo w 1 (.returned (.tuple #[dval none 0 0 none 0 0 0, .int .i64 1])) (set3 W gr (.slice none 0 0) (.slice none 0 0) (.int .i64 0))) := fun W hW => Lib.hid ⟨rfl, set3_below (below_step HB.out hW) HG.out.1 _ _ _⟩
  cases hv1 : validB s1 m1 l1 with
  | false =>
    have CV1 := Lib.hid ((H1.out.keep hb).valid c1 d1 l1 false hv1)
    clear hga hgb hgr hb hbx hv hv1
    go_wp2_with ((go_at_call 18; ((with_reducible refine CV1.out.mono ?_); rintro e w1 ⟨rfl, hb1⟩; obtain ⟨r0, r1, r2, f0, f1, f2⟩ := (HF w1 hb1).out)))
    obtain ⟨q0, q1, q2⟩ := set3_cells w1 gr (.slice none 0 0) (.slice none 0 0) (.int .i64 0) r0 r1 r2
    exact bodyPost_ret (v := .tuple #[dval none 0 0 none 0 0 0, .int .i64 1]) (by simp [results, Try.results34, go_sem, q0, q1, q2]) rfl (fin w1 hb1).out
  | true =>
    have hv2 : validB s2 m2 l2 = false := by rw [hv1] at hv; exact hv
    have CV1 := Lib.hid ((H1.out.keep hb).valid c1 d1 l1 true hv1)
    have CV2 : ∀ W, Below w0.heap.size w0 W → Hid (Calls Try.prog 18 #[dval A2 n2 c2 B2 k2 d2 l2] W fun e w' => e = .returned (.bool false) ∧ Below W.heap.size W w') := fun W hW => Lib.hid ((H2.out.keep (below_step HB.out hW)).valid c2 d2 l2 false hv2)
    clear hga hgb hgr hb hbx hv hv1 hv2
    go_wp2_with (first
      | (go_at_call 18; ((with_reducible refine (CV2 _ hb1).out.mono ?_); rintro e w2 ⟨rfl, hb2'⟩; have hb2 := below_step hb1 hb2'; obtain ⟨r0, r1, r2, f0, f1, f2⟩ := (HF w2 hb2).out))
      | (go_at_call 18; ((with_reducible refine CV1.out.mono ?_); rintro e w1 ⟨rfl, hb1⟩; have y0 := (hb1.cell (p := ⟨gb, 0, none⟩) blt).trans b0; have y1 := (hb1.cell (p := ⟨gb, 1, none⟩) blt).trans b1; have y2 := (hb1.cell (p := ⟨gb, 2, none⟩) blt).trans b2)))
    obtain ⟨q0, q1, q2⟩ := set3_cells w2 gr (.slice none 0 0) (.slice none 0 0) (.int .i64 0) r0 r1 r2
    exact bodyPost_ret (v := .tuple #[dval none 0 0 none 0 0 0, .int .i64 1]) (by simp [results, Try.results34, go_sem, q0, q1, q2]) rfl (fin w2 hb2).out

set_option maxHeartbeats 3200000 in
set_option maxRecDepth 100000 in
theorem sum_far (A1 B1 A2 B2 : Option Addr) (n1 c1 k1 d1 n2 c2 k2 d2 : Nat) (l1 l2 x y : Int) (s1 m1 s2 m2 : List Int) (w : World) (h1 : DV w A1 n1 B1 k1 s1 m1) (h2 : DV w A2 n2 B2 k2 s2 m2) (hv1 : validB s1 m1 l1 = true) (hv2 : validB s2 m2 l2 = true) (hx : -9223372036854775808 ≤ x ∧ x ≤ 9223372036854775807) (hy : -9223372036854775808 ≤ y ∧ y ≤ 9223372036854775807) (hp : (placeV s1 m1 l1 x && placeV s2 m2 l2 y) = false) :
    Calls Try.prog 34 #[dval A1 n1 c1 B1 k1 d1 l1, .int .i64 x, dval A2 n2 c2 B2 k2 d2 l2, .int .i64 y] w (CnNo w 2) := by
  have hb1 := below_alloc w (dbox A1 n1 c1 B1 k1 d1 l1)
  have hb2 := below_alloc (w.alloc (dbox A1 n1 c1 B1 k1 d1 l1)) (dbox A2 n2 c2 B2 k2 d2 l2)
  have hb3 := below_alloc ((w.alloc (dbox A1 n1 c1 B1 k1 d1 l1)).alloc (dbox A2 n2 c2 B2 k2 d2 l2)) (.cells #[.slice none 0 0, .slice none 0 0, .int .i64 0] 24)
  have hd1 := ((DB.new w A1 n1 c1 B1 k1 d1 l1).keep hb2).keep hb3
  have hd2 := (DB.new (w.alloc (dbox A1 n1 c1 B1 k1 d1 l1)) A2 n2 c2 B2 k2 d2 l2).keep hb3
  have hbx := bxz_new ((w.alloc (dbox A1 n1 c1 B1 k1 d1 l1)).alloc (dbox A2 n2 c2 B2 k2 d2 l2))
  have hb := below_step (below_step hb1 hb2) hb3
  have hsz : (w.alloc (dbox A1 n1 c1 B1 k1 d1 l1)).heap.size = w.heap.size + 1 := by simp
  have hsz2 : ((w.alloc (dbox A1 n1 c1 B1 k1 d1 l1)).alloc (dbox A2 n2 c2 B2 k2 d2 l2)).heap.size = w.heap.size + 2 := by simp
  rw [hsz] at hd2
  rw [hsz2] at hbx
  have H1 := Lib.hid h1
  have H2 := Lib.hid h2
  clear hb1 hb2 hb3 hsz hsz2 h1 h2
  unfold dbox at hd1 hd2 hbx hb
  go_enter Try.func34, Try.ntmps34
  go_upto_region 1 with fail
  generalize ((w.alloc (.cells #[.slice A1 n1 c1, .slice B1 k1 d1, .int .i64 l1] 24)).alloc (.cells #[.slice A2 n2 c2, .slice B2 k2 d2, .int .i64 l2] 24)).alloc (.cells #[.slice none 0 0, .slice none 0 0, .int .i64 0] 24) = w0 at hd1 hd2 hbx hb ⊢
  rw [show w.heap.size + 1 + 1 = w.heap.size + 2 by omega]
  obtain ⟨ga, hga⟩ : ∃ ga, w.heap.size = ga := ⟨_, rfl⟩
  obtain ⟨gb, hgb⟩ : ∃ gb, w.heap.size + 1 = gb := ⟨_, rfl⟩
  obtain ⟨gr, hgr⟩ : ∃ gr, w.heap.size + 2 = gr := ⟨_, rfl⟩
  have HG : Hid (w.heap.size ≤ gr ∧ gr < w0.heap.size) := Lib.hid ⟨by omega, by rw [← hgr]; exact hbx.1.2.2.2⟩
  rw [hga] at hd1
  rw [hgb] at hd2 ⊢
  rw [hgr] at hbx ⊢
  rw [hga]
  have HB := Lib.hid hb
  have HBX := Lib.hid hbx
  obtain ⟨a0, a1, a2, alt⟩ := hd1
  obtain ⟨b0, b1, b2, blt⟩ := hd2
  have HF : ∀ W, Below w0.heap.size w0 W → Hid (W.cell? ⟨gr, 0, none⟩ = some (.slice none 0 0) ∧ W.cell? ⟨gr, 1, none⟩ = some (.slice none 0 0) ∧ W.cell? ⟨gr, 2, none⟩ = some (.int .i64 0) ∧ W.frozen? ⟨gr, 0, none⟩ = false ∧ W.frozen? ⟨gr, 1, none⟩ = false ∧ W.frozen? ⟨gr, 2, none⟩ = false) := fun W hW => by
    have h := HBX.out.kp hW
    exact Lib.hid ⟨h.1.1, h.1.2.1, h.1.2.2.1, h.2 0, h.2 1, h.2 2⟩
  have fin : ∀ W, Below w0.heap.size w0 W → Hid (CnNo w 2 (.returned (.tuple #[dval none 0 0 none 0 0 0, .int .i64 2])) (set3 W gr (.slice none 0 0) (.slice none 0 0) (.int .i64 0))) := fun W hW => Lib.hid ⟨rfl, set3_below (below_step HB.out hW) HG.out.1 _ _ _⟩
  have CV1 := Lib.hid ((H1.out.keep hb).valid c1 d1 l1 true hv1)
  have CV2 : ∀ W, Below w0.heap.size w0 W → Hid (Calls Try.prog 18 #[dval A2 n2 c2 B2 k2 d2 l2] W fun e w' => e = .returned (.bool true) ∧ Below W.heap.size W w') := fun W hW => Lib.hid ((H2.out.keep (below_step HB.out hW)).valid c2 d2 l2 true hv2)
  have CP1 : ∀ W, Below w0.heap.size w0 W → Hid (Calls Try.prog 79 #[dval A1 n1 c1 B1 k1 d1 l1, .int .i64 x] W fun e w' => e = .returned (.bool (placeV s1 m1 l1 x)) ∧ Below W.heap.size W w') := fun W hW => Lib.hid (place_any A1 B1 n1 c1 k1 d1 l1 x s1 m1 W (H1.out.keep (below_step HB.out hW)) hx.1 hx.2 (by have := cn_data hv1 H1.out.hs.1 H1.out.hm.1; omega))
  have CP2 : ∀ W, Below w0.heap.size w0 W → Hid (Calls Try.prog 79 #[dval A2 n2 c2 B2 k2 d2 l2, .int .i64 y] W fun e w' => e = .returned (.bool (placeV s2 m2 l2 y)) ∧ Below W.heap.size W w') := fun W hW => Lib.hid (place_any A2 B2 n2 c2 k2 d2 l2 y s2 m2 W (H2.out.keep (below_step HB.out hW)) hy.1 hy.2 (by have := cn_data hv2 H2.out.hs.1 H2.out.hm.1; omega))
  have HXA : Hid (∀ W, Below w0.heap.size w0 W → W.cell? ⟨ga, 0, none⟩ = some (.slice A1 n1 c1) ∧ W.cell? ⟨ga, 1, none⟩ = some (.slice B1 k1 d1) ∧ W.cell? ⟨ga, 2, none⟩ = some (.int .i64 l1)) := Lib.hid fun W h => ⟨(h.cell (p := ⟨ga, 0, none⟩) alt).trans a0, (h.cell (p := ⟨ga, 1, none⟩) alt).trans a1, (h.cell (p := ⟨ga, 2, none⟩) alt).trans a2⟩
  have HXB : Hid (∀ W, Below w0.heap.size w0 W → W.cell? ⟨gb, 0, none⟩ = some (.slice A2 n2 c2) ∧ W.cell? ⟨gb, 1, none⟩ = some (.slice B2 k2 d2) ∧ W.cell? ⟨gb, 2, none⟩ = some (.int .i64 l2)) := Lib.hid fun W h => ⟨(h.cell (p := ⟨gb, 0, none⟩) blt).trans b0, (h.cell (p := ⟨gb, 1, none⟩) blt).trans b1, (h.cell (p := ⟨gb, 2, none⟩) blt).trans b2⟩
  clear hga hgb hgr hb hbx hv1 hv2 hx hy
  go_upto_region 3 with (first
    | (go_at_call 18; ((with_reducible refine (CV2 _ hb1).out.mono ?_); rintro e w2 ⟨rfl, hb2'⟩; have hb2 := below_step hb1 hb2'))
    | (go_at_call 18; ((with_reducible refine CV1.out.mono ?_); rintro e w1 ⟨rfl, hb1⟩; obtain ⟨y0, y1, y2⟩ := HXB.out w1 hb1)))
  obtain ⟨x0, x1, x2⟩ := HXA.out w2 hb2
  clear y0 y1 y2 a0 a1 a2 b0 b1 b2
  cases hp1 : placeV s1 m1 l1 x with
  | false =>
    rw [hp1] at CP1
    clear hp hp1
    go_wp2_with (go_at_call 79; ((with_reducible refine (CP1 _ hb2).out.mono ?_); rintro e w3 ⟨rfl, hb3'⟩; have hb3 := below_step hb2 hb3'; obtain ⟨r0, r1, r2, f0, f1, f2⟩ := (HF w3 hb3).out))
    obtain ⟨q0, q1, q2⟩ := set3_cells w3 gr (.slice none 0 0) (.slice none 0 0) (.int .i64 0) r0 r1 r2
    exact bodyPost_ret (v := .tuple #[dval none 0 0 none 0 0 0, .int .i64 2]) (by simp [results, Try.results34, go_sem, q0, q1, q2]) rfl (fin w3 hb3).out
  | true =>
    have hp2 : placeV s2 m2 l2 y = false := by rw [hp1] at hp; exact hp
    rw [hp1] at CP1
    rw [hp2] at CP2
    clear hp hp1 hp2
    go_wp2_with (first
      | (go_at_call 79; ((with_reducible refine (CP2 _ hb3).out.mono ?_); rintro e w4 ⟨rfl, hb4'⟩; have hb4 := below_step hb3 hb4'; obtain ⟨r0, r1, r2, f0, f1, f2⟩ := (HF w4 hb4).out))
      | (go_at_call 79; ((with_reducible refine (CP1 _ hb2).out.mono ?_); rintro e w3 ⟨rfl, hb3'⟩; have hb3 := below_step hb2 hb3'; obtain ⟨y0, y1, y2⟩ := HXB.out w3 hb3)))
    obtain ⟨q0, q1, q2⟩ := set3_cells w4 gr (.slice none 0 0) (.slice none 0 0) (.int .i64 0) r0 r1 r2
    exact bodyPost_ret (v := .tuple #[dval none 0 0 none 0 0 0, .int .i64 2]) (by simp [results, Try.results34, go_sem, q0, q1, q2]) rfl (fin w4 hb4).out

end Go.Proofs.Ytkfjledhnakfoaa
