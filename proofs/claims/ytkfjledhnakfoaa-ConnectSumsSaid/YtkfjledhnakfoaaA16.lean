import Derived.Test.YtkfjledhnakfoaaA12
import Derived.Test.YtkfjledhnakfoaaA15
import Derived.Test.YtkfjledhnakfoaaA04
import Derived.Test.YtkfjledhnakfoaaA14
/- Walk: Sum. -/
namespace Go.Proofs.Ytkfjledhnakfoaa
open Go.RowKit

theorem bsM_length (m1 m2 : List Int) : (bsM m1 m2).length = m1.length + m2.length := by simp [bsM]
theorem bsM_lo (m1 m2 : List Int) {j : Nat} (h : j < m1.length) : (bsM m1 m2).getD j 0 = m1.getD j 0 := by
  unfold bsM
  rw [List.getD_eq_getElem?_getD, List.getElem?_append_left h, ← List.getD_eq_getElem?_getD]
theorem bsM_hi (m1 m2 : List Int) {j : Nat} (h : j < m2.length) : (bsM m1 m2).getD (m1.length + j) 0 = m2.getD j 0 + (m1.length : Int) := by
  unfold bsM
  rw [List.getD_eq_getElem?_getD, List.getElem?_append_right (by omega), show m1.length + j - m1.length = j by omega, List.getElem?_map]
  have : m2[j]? = some m2[j] := List.getElem?_eq_getElem h
  rw [this]
  simp [List.getD, h]
def sumM (m1 m2 : List Int) (x y : Int) : List Int := if x = -1 ∨ y = -1 then bsM m1 m2 else exL (bsM m1 m2) x.toNat (m1.length + y.toNat)
def sumL (l1 l2 x y : Int) : Int := if x = -1 ∨ y = -1 then l1 + l2 - 1 else l1 + l2
def SmPost (w : World) (n k : Nat) (l : Int) (s m : List Int) (e : Ending) (w' : World) : Prop :=
  ∃ A cs B cm, e = .returned (.tuple #[dval A n cs B k cm l, .int .i64 0]) ∧ OI w' w.heap.size (.slice A n cs) s ∧ OI w' w.heap.size (.slice B k cm) m ∧ Below w.heap.size w w'
theorem place_out {s m : List Int} {lp x : Int} (h : placeV s m lp x = true) (hx : x ≠ -1) : ∃ h : Nat, x = (h : Nat) ∧ h < m.length ∧ outB s h = true := by
  unfold placeV outV at h
  simp only [Bool.or_eq_true, Bool.and_eq_true, decide_eq_true_eq] at h
  rcases h with ⟨⟨_, h1, h2⟩, h3⟩ | ⟨h1, _⟩
  · exact ⟨x.toNat, by omega, by omega, h3⟩
  · exact absurd h1 hx
theorem place_loop {s m : List Int} {lp : Int} (h : placeV s m lp (-1) = true) : 0 < lp := by
  unfold placeV outV at h
  simp only [Bool.or_eq_true, Bool.and_eq_true, decide_eq_true_eq] at h
  rcases h with ⟨⟨_, h1, _⟩, _⟩ | ⟨_, h1⟩
  · omega
  · exact h1

set_option maxHeartbeats 12800000 in
set_option maxRecDepth 100000 in
theorem sum_loop (A1 B1 A2 B2 : Option Addr) (n1 c1 k1 d1 n2 c2 k2 d2 : Nat) (l1 l2 x y : Int) (s1 m1 s2 m2 : List Int) (w : World) (h1 : DV w A1 n1 B1 k1 s1 m1) (h2 : DV w A2 n2 B2 k2 s2 m2) (hv1 : validB s1 m1 l1 = true) (hv2 : validB s2 m2 l2 = true)
    (hxi : -9223372036854775808 ≤ x ∧ x ≤ 9223372036854775807) (hyi : -9223372036854775808 ≤ y ∧ y ≤ 9223372036854775807) (hp1 : placeV s1 m1 l1 x = true) (hp2 : placeV s2 m2 l2 y = true) (hn : n1 + n2 ≤ 64) (hl : l1 + l2 ≤ 65) (hxy : x = -1 ∨ y = -1) :
    Calls Try.prog 34 #[dval A1 n1 c1 B1 k1 d1 l1, .int .i64 x, dval A2 n2 c2 B2 k2 d2 l2, .int .i64 y] w (SmPost w (n1 + n2) (k1 + k2) (l1 + l2 - 1) (s1 ++ s2) (bsM m1 m2)) := by
  obtain ⟨ek1, en1, hM1, lo1, hi1⟩ := cn_data hv1 h1.hs.1 h1.hm.1
  obtain ⟨ek2, en2, hM2, lo2, hi2⟩ := cn_data hv2 h2.hs.1 h2.hm.1
  have hb1 := below_alloc w (dbox A1 n1 c1 B1 k1 d1 l1)
  have hb2 := below_alloc (w.alloc (dbox A1 n1 c1 B1 k1 d1 l1)) (dbox A2 n2 c2 B2 k2 d2 l2)
  have hb3 := below_alloc ((w.alloc (dbox A1 n1 c1 B1 k1 d1 l1)).alloc (dbox A2 n2 c2 B2 k2 d2 l2)) (.cells #[.slice none 0 0, .slice none 0 0, .int .i64 0] 24)
  have hd1 := ((DB.new w A1 n1 c1 B1 k1 d1 l1).keep hb2).keep hb3
  have hd2 := (DB.new (w.alloc (dbox A1 n1 c1 B1 k1 d1 l1)) A2 n2 c2 B2 k2 d2 l2).keep hb3
  have hbx := bxz_new ((w.alloc (dbox A1 n1 c1 B1 k1 d1 l1)).alloc (dbox A2 n2 c2 B2 k2 d2 l2))
  have hb := below_step (below_step hb1 hb2) hb3
  have hsz : (w.alloc (dbox A1 n1 c1 B1 k1 d1 l1)).heap.size = w.heap.size + 1 := by simp
  have hsz2 : ((w.alloc (dbox A1 n1 c1 B1 k1 d1 l1)).alloc (dbox A2 n2 c2 B2 k2 d2 l2)).heap.size = w.heap.size + 2 := by simp
  rw [hsz] at hd2
  rw [hsz2] at hbx
  have H1 := Lib.hid h1
  have H2 := Lib.hid h2
  have HV1 := Lib.hid hv1
  have HV2 := Lib.hid hv2
  have CB : ∀ W, Below w.heap.size w W → Hid (Calls Try.prog 56 #[dval A1 n1 c1 B1 k1 d1 l1, dval A2 n2 c2 B2 k2 d2 l2] W (BsPost W (n1 + n2) (k1 + k2) (l1 + l2) (s1 ++ s2) (bsM m1 m2))) := fun W hW => Lib.hid
    (beside_any A1 B1 A2 B2 n1 c1 k1 d1 n2 c2 k2 d2 l1 l2 s1 m1 s2 m2 W (h1.hs.keep hW) (h1.hm.keep hW) (h2.hs.keep hW) (h2.hm.keep hW) en1 (by omega) en2 (by omega) ⟨lo1, hi1⟩ ⟨lo2, hi2⟩ fun j hj => by have := hM2 j hj; omega)
  have hpos : 0 < l1 + l2 := by
    rcases hxy with rfl | rfl
    · have := place_loop hp1; omega
    · have := place_loop hp2; omega
  have HXI := Lib.hid hxi
  have HYI := Lib.hid hyi
  have HP1 := Lib.hid hp1
  have HP2 := Lib.hid hp2
  clear hb1 hb2 hb3 hsz hsz2 h1 h2 hv1 hv2 hM1 hM2 ek1 ek2 hp1 hp2 hxi hyi
  unfold dbox at hd1 hd2 hbx hb
  go_enter Try.func34, Try.ntmps34
  go_upto_region 1 with fail
  generalize ((w.alloc (.cells #[.slice A1 n1 c1, .slice B1 k1 d1, .int .i64 l1] 24)).alloc (.cells #[.slice A2 n2 c2, .slice B2 k2 d2, .int .i64 l2] 24)).alloc (.cells #[.slice none 0 0, .slice none 0 0, .int .i64 0] 24) = w0 at hd1 hd2 hbx hb ⊢
  rw [show w.heap.size + 1 + 1 = w.heap.size + 2 by omega]
  obtain ⟨ga, hga⟩ : ∃ ga, w.heap.size = ga := ⟨_, rfl⟩
  obtain ⟨gb, hgb⟩ : ∃ gb, w.heap.size + 1 = gb := ⟨_, rfl⟩
  obtain ⟨gr, hgr⟩ : ∃ gr, w.heap.size + 2 = gr := ⟨_, rfl⟩
  have HG : Hid (w.heap.size ≤ gr ∧ gr < w0.heap.size) := Lib.hid ⟨by omega, by rw [← hgr]; exact hbx.1.2.2.2⟩
  rw [hga] at hd1
  rw [hgb] at hd2 ⊢
  rw [hgr] at hbx ⊢
  rw [hga]
  have HB := Lib.hid hb
  have HBX := Lib.hid hbx
  obtain ⟨a0, a1, a2, alt⟩ := hd1
  obtain ⟨b0, b1, b2, blt⟩ := hd2
  have CV1 := Lib.hid ((H1.out.keep hb).valid c1 d1 l1 true HV1.out)
  have CV2 : ∀ W, Below w0.heap.size w0 W → Hid (Calls Try.prog 18 #[dval A2 n2 c2 B2 k2 d2 l2] W fun e w' => e = .returned (.bool true) ∧ Below W.heap.size W w') := fun W hW => Lib.hid ((H2.out.keep (below_step HB.out hW)).valid c2 d2 l2 true HV2.out)
  have CP1 : ∀ W, Below w0.heap.size w0 W → Hid (Calls Try.prog 79 #[dval A1 n1 c1 B1 k1 d1 l1, .int .i64 x] W fun e w' => e = .returned (.bool true) ∧ Below W.heap.size W w') := fun W hW => Lib.hid (by have h := place_any A1 B1 n1 c1 k1 d1 l1 x s1 m1 W (H1.out.keep (below_step HB.out hW)) HXI.out.1 HXI.out.2 (by omega); rw [HP1.out] at h; exact h)
  have CP2 : ∀ W, Below w0.heap.size w0 W → Hid (Calls Try.prog 79 #[dval A2 n2 c2 B2 k2 d2 l2, .int .i64 y] W fun e w' => e = .returned (.bool true) ∧ Below W.heap.size W w') := fun W hW => Lib.hid (by have h := place_any A2 B2 n2 c2 k2 d2 l2 y s2 m2 W (H2.out.keep (below_step HB.out hW)) HYI.out.1 HYI.out.2 (by omega); rw [HP2.out] at h; exact h)
  have XA : ∀ W, Below w0.heap.size w0 W → W.cell? ⟨ga, 0, none⟩ = some (.slice A1 n1 c1) ∧ W.cell? ⟨ga, 1, none⟩ = some (.slice B1 k1 d1) ∧ W.cell? ⟨ga, 2, none⟩ = some (.int .i64 l1) := fun W h => ⟨(h.cell (p := ⟨ga, 0, none⟩) alt).trans a0, (h.cell (p := ⟨ga, 1, none⟩) alt).trans a1, (h.cell (p := ⟨ga, 2, none⟩) alt).trans a2⟩
  have XB : ∀ W, Below w0.heap.size w0 W → W.cell? ⟨gb, 0, none⟩ = some (.slice A2 n2 c2) ∧ W.cell? ⟨gb, 1, none⟩ = some (.slice B2 k2 d2) ∧ W.cell? ⟨gb, 2, none⟩ = some (.int .i64 l2) := fun W h => ⟨(h.cell (p := ⟨gb, 0, none⟩) blt).trans b0, (h.cell (p := ⟨gb, 1, none⟩) blt).trans b1, (h.cell (p := ⟨gb, 2, none⟩) blt).trans b2⟩
  have HXA := Lib.hid XA
  have HXB := Lib.hid XB
  clear hga hgb hgr hb hbx XA XB
  go_upto_region 3 with (first
    | (go_at_call 18; ((with_reducible refine (CV2 _ hb1).out.mono ?_); rintro e w2 ⟨rfl, hb2'⟩; have hb2 := below_step hb1 hb2'))
    | (go_at_call 18; ((with_reducible refine CV1.out.mono ?_); rintro e w1 ⟨rfl, hb1⟩; obtain ⟨y0, y1, y2⟩ := HXB.out w1 hb1)))
  obtain ⟨x0, x1, x2⟩ := HXA.out w2 hb2
  clear y0 y1 y2 a0 a1 a2 b0 b1 b2
  go_upto_region 5 with (first
    | (go_at_call 79; ((with_reducible refine (CP2 _ hb3).out.mono ?_); rintro e w4 ⟨rfl, hb4'⟩; have hb4 := below_step hb3 hb4'))
    | (go_at_call 79; ((with_reducible refine (CP1 _ hb2).out.mono ?_); rintro e w3 ⟨rfl, hb3'⟩; have hb3 := below_step hb2 hb3'; obtain ⟨y0, y1, y2⟩ := HXB.out w3 hb3)))
  clear x0 x1 x2 y0 y1 y2
  obtain ⟨x0, x1, x2⟩ := HXA.out w4 hb4
  obtain ⟨y0, y1, y2⟩ := HXB.out w4 hb4
  have CB5 := CB w4 (below_step HB.out hb4)
  go_upto_region 6 with (go_at_call 56; ((with_reducible refine CB5.out.mono ?_); rintro e w5 ⟨A3, c3, B3, d3, rfl, oS, oM, hne, hb5⟩))
  have hbq := below_alloc w5 (dbox A3 (n1 + n2) c3 B3 (k1 + k2) d3 (l1 + l2))
  have hbs := DB.new w5 A3 (n1 + n2) c3 B3 (k1 + k2) d3 (l1 + l2)
  have hsf : ∀ i, (w5.alloc (dbox A3 (n1 + n2) c3 B3 (k1 + k2) d3 (l1 + l2))).frozen? ⟨w5.heap.size, i, none⟩ = false := fun i => World.frozen?_alloc_at _ _ _ _ rfl
  have oS6 := oS.keep hbq
  have oM6 := oM.keep hbq
  have hb6 := below_step (below_step hb4 hb5) hbq
  have hS5 := fun g e => World.ownsRow.lt oS g e
  have hM5 := fun g e => World.ownsRow.lt oM g e
  have hle45 : w.heap.size ≤ w4.heap.size := Nat.le_trans HB.out.size hb4.size
  have HQ : Hid ((∀ g, (Value.slice A3 (n1 + n2) c3).ownBlock = some g → w4.heap.size ≤ g ∧ g < w5.heap.size) ∧ (∀ g, (Value.slice B3 (k1 + k2) d3).ownBlock = some g → w4.heap.size ≤ g ∧ g < w5.heap.size) ∧ w.heap.size ≤ w4.heap.size ∧ w0.heap.size ≤ w4.heap.size ∧ w4.heap.size ≤ w5.heap.size) := Lib.hid ⟨hS5, hM5, hle45, hb4.size, hb5.size⟩
  unfold dbox at hbq hbs hsf oS6 oM6 hb6
  generalize w5.alloc (.cells #[.slice A3 (n1 + n2) c3, .slice B3 (k1 + k2) d3, .int .i64 (l1 + l2)] 24) = w6 at hbq hbs hsf oS6 oM6 hb6 ⊢
  obtain ⟨gs, hgs⟩ : ∃ gs, w5.heap.size = gs := ⟨_, rfl⟩
  rw [hgs] at hbs hsf ⊢
  have HGS := Lib.hid hgs
  have HS6 := Lib.hid oS6
  have HM6 := Lib.hid oM6
  have HB6 := Lib.hid hb6
  have HNE := Lib.hid hne
  have HBS := Lib.hid hbs
  obtain ⟨t0, t1, t2, tlt⟩ := hbs
  have g2 := hsf 2
  have HSF := Lib.hid hsf
  clear x0 x1 x2 y0 y1 y2 oS oM hS5 hM5 hle45 hsf hbq oS6 oM6 hb6 hgs hne CB5 CB hb5
  have hwl : IntKind.i64.wrap (l1 + l2 - 1) = l1 + l2 - 1 := IntWalk.i64_in _ (by omega)
  have hbz : DB (w6.setCell ⟨gs, 2, none⟩ (.int .i64 (l1 + l2 - 1))) gs A3 (n1 + n2) c3 B3 (k1 + k2) d3 (l1 + l2 - 1) :=
    ⟨(World.cell?_setCell_other _ _ _ _ (by simp)).trans t0, (World.cell?_setCell_other _ _ _ _ (by simp)).trans t1, World.cell?_setCell_same _ _ _ t2, by simp [World.setCell]; exact tlt⟩
  have CL : ∀ W, Hid (Calls Try.prog 55 #[dval A3 (n1 + n2) c3 B3 (k1 + k2) d3 (l1 + l2 - 1)] W fun e w' => e = .returned (.tuple #[dval A3 (n1 + n2) c3 B3 (k1 + k2) d3 (l1 + l2 - 1), .int .i64 0]) ∧ Below W.heap.size W w') := fun W => Lib.hid ((limited_any A3 B3 (n1 + n2) c3 (k1 + k2) d3 (l1 + l2 - 1) W (by omega)).mono fun e w' h => by unfold LmPost at h; rw [if_pos ⟨hn, by omega⟩] at h; exact h)
  have HBZ := Lib.hid hbz
  have HPQ : Hid (BxZ (w6.setCell ⟨gs, 2, none⟩ (.int .i64 (l1 + l2 - 1))) gr ∧ OI (w6.setCell ⟨gs, 2, none⟩ (.int .i64 (l1 + l2 - 1))) w4.heap.size (.slice A3 (n1 + n2) c3) (s1 ++ s2) ∧ OI (w6.setCell ⟨gs, 2, none⟩ (.int .i64 (l1 + l2 - 1))) w4.heap.size (.slice B3 (k1 + k2) d3) (bsM m1 m2) ∧ Below w.heap.size w (w6.setCell ⟨gs, 2, none⟩ (.int .i64 (l1 + l2 - 1)))) := Lib.hid (by
    have hq := HQ.out
    have hg := HG.out
    have hgs := HGS.out
    have hgz : w6.grownBy (w6.setCell ⟨gs, 2, none⟩ (.int .i64 (l1 + l2 - 1))) (some gs) := grown_set ⟨rfl, rfl, rfl, Nat.le_refl _, fun _ _ _ => rfl⟩ 2 _
    refine ⟨(HBX.out.kp HB6.out).kg hgz (by simp; omega), HS6.out.far (p := ⟨gs, 2, none⟩) (fun e => ?_) _, HM6.out.far (p := ⟨gs, 2, none⟩) (fun e => ?_) _, below_set (below_step HB.out HB6.out) (by omega) _⟩
    · have := hq.1 gs e; omega
    · have := hq.2.1 gs e; omega)
  clear t0 t1
  have hx1 : (x == -1) = true ∨ ((x == -1) = false ∧ y = -1) := by
    rcases hxy with rfl | rfl
    · exact .inl rfl
    · by_cases e : x = -1
      · exact .inl (by simp [e])
      · exact .inr ⟨by simp [e], rfl⟩
  clear hxy
  rcases hx1 with hxe | ⟨hxe, rfl⟩
  all_goals
    go_upto_region 9 with fail
    have hlen := HBZ.out
    obtain ⟨t0, t1, t2, tlt⟩ := hlen
    generalize w6.setCell ⟨gs, 2, none⟩ (.int .i64 (l1 + l2 - 1)) = w7 at HPQ HBZ t0 t1 t2 tlt ⊢
    go_wp2_with (go_at_call 55; ((with_reducible refine (CL _).out.mono ?_); rintro e w8 ⟨rfl, hb8⟩; have hr := HPQ.out.1.kp hb8; have r0 := hr.1.1; have r1 := hr.1.2.1; have r2 := hr.1.2.2.1; have f0 := hr.2 0; have f1 := hr.2 1; have f2 := hr.2 2))
    obtain ⟨q0, q1, q2⟩ := set3_cells w8 gr (.slice A3 (n1 + n2) c3) (.slice B3 (k1 + k2) d3) (.int .i64 (l1 + l2 - 1)) r0 r1 r2
    have HF : Hid (SmPost w (n1 + n2) (k1 + k2) (l1 + l2 - 1) (s1 ++ s2) (bsM m1 m2) (.returned (.tuple #[dval A3 (n1 + n2) c3 B3 (k1 + k2) d3 (l1 + l2 - 1), .int .i64 0])) (set3 w8 gr (.slice A3 (n1 + n2) c3) (.slice B3 (k1 + k2) d3) (.int .i64 (l1 + l2 - 1)))) := Lib.hid (by
      have hq := HQ.out
      have hg := HG.out
      obtain ⟨_, p1, p2, p3⟩ := HPQ.out
      refine ⟨A3, c3, B3, d3, rfl, ((p1.keep hb8).set3 (fun e => ?_) _ _ _).mono hq.2.2.1, ((p2.keep hb8).set3 (fun e => ?_) _ _ _).mono hq.2.2.1, set3_below (below_step p3 hb8) hg.1 _ _ _⟩
      · have := hq.1 _ e; omega
      · have := hq.2.1 _ e; omega)
    exact bodyPost_ret (v := .tuple #[dval A3 (n1 + n2) c3 B3 (k1 + k2) d3 (l1 + l2 - 1), .int .i64 0]) (by simp [results, Try.results34, go_sem, q0, q1, q2]) rfl HF.out

set_option maxHeartbeats 12800000 in
set_option maxRecDepth 100000 in
theorem sum_out (A1 B1 A2 B2 : Option Addr) (n1 c1 k1 d1 n2 c2 k2 d2 : Nat) (l1 l2 : Int) (x y : Nat) (s1 m1 s2 m2 : List Int) (w : World) (h1 : DV w A1 n1 B1 k1 s1 m1) (h2 : DV w A2 n2 B2 k2 s2 m2) (hv1 : validB s1 m1 l1 = true) (hv2 : validB s2 m2 l2 = true)
    (hx : x < k1) (hy : y < k2) (hp1 : placeV s1 m1 l1 (x : Nat) = true) (hp2 : placeV s2 m2 l2 (y : Nat) = true) (hn : n1 + n2 ≤ 64) (hl : l1 + l2 ≤ 64) :
    Calls Try.prog 34 #[dval A1 n1 c1 B1 k1 d1 l1, .int .i64 (x : Nat), dval A2 n2 c2 B2 k2 d2 l2, .int .i64 (y : Nat)] w (SmPost w (n1 + n2) (k1 + k2) (l1 + l2) (s1 ++ s2) (exL (bsM m1 m2) x (k1 + y))) := by
  obtain ⟨ek1, en1, hM1, lo1, hi1⟩ := cn_data hv1 h1.hs.1 h1.hm.1
  obtain ⟨ek2, en2, hM2, lo2, hi2⟩ := cn_data hv2 h2.hs.1 h2.hm.1
  have hb1 := below_alloc w (dbox A1 n1 c1 B1 k1 d1 l1)
  have hb2 := below_alloc (w.alloc (dbox A1 n1 c1 B1 k1 d1 l1)) (dbox A2 n2 c2 B2 k2 d2 l2)
  have hb3 := below_alloc ((w.alloc (dbox A1 n1 c1 B1 k1 d1 l1)).alloc (dbox A2 n2 c2 B2 k2 d2 l2)) (.cells #[.slice none 0 0, .slice none 0 0, .int .i64 0] 24)
  have hd1 := ((DB.new w A1 n1 c1 B1 k1 d1 l1).keep hb2).keep hb3
  have hd2 := (DB.new (w.alloc (dbox A1 n1 c1 B1 k1 d1 l1)) A2 n2 c2 B2 k2 d2 l2).keep hb3
  have hbx := bxz_new ((w.alloc (dbox A1 n1 c1 B1 k1 d1 l1)).alloc (dbox A2 n2 c2 B2 k2 d2 l2))
  have hb := below_step (below_step hb1 hb2) hb3
  have hsz : (w.alloc (dbox A1 n1 c1 B1 k1 d1 l1)).heap.size = w.heap.size + 1 := by simp
  have hsz2 : ((w.alloc (dbox A1 n1 c1 B1 k1 d1 l1)).alloc (dbox A2 n2 c2 B2 k2 d2 l2)).heap.size = w.heap.size + 2 := by simp
  rw [hsz] at hd2
  rw [hsz2] at hbx
  have H1 := Lib.hid h1
  have H2 := Lib.hid h2
  have HV1 := Lib.hid hv1
  have HV2 := Lib.hid hv2
  have CB : ∀ W, Below w.heap.size w W → Hid (Calls Try.prog 56 #[dval A1 n1 c1 B1 k1 d1 l1, dval A2 n2 c2 B2 k2 d2 l2] W (BsPost W (n1 + n2) (k1 + k2) (l1 + l2) (s1 ++ s2) (bsM m1 m2))) := fun W hW => Lib.hid
    (beside_any A1 B1 A2 B2 n1 c1 k1 d1 n2 c2 k2 d2 l1 l2 s1 m1 s2 m2 W (h1.hs.keep hW) (h1.hm.keep hW) (h2.hs.keep hW) (h2.hm.keep hW) en1 (by omega) en2 (by omega) ⟨lo1, hi1⟩ ⟨lo2, hi2⟩ fun j hj => by have := hM2 j hj; omega)
  obtain ⟨ex, hex, lex⟩ : ∃ ex : Nat, (bsM m1 m2).getD x 0 = (ex : Int) ∧ ex < k1 + k2 := by
    obtain ⟨e, l⟩ := hM1 x hx
    exact ⟨matesOf m1 x, by rw [bsM_lo _ _ (by rw [h1.hm.1]; exact hx)]; exact e, by omega⟩
  obtain ⟨ey, hey, ley⟩ : ∃ ey : Nat, (bsM m1 m2).getD (k1 + y) 0 = (ey : Int) ∧ ey < k1 + k2 := by
    obtain ⟨e, l⟩ := hM2 y hy
    have hh := bsM_hi m1 m2 (j := y) (by rw [h2.hm.1]; exact hy)
    rw [h1.hm.1, e] at hh
    exact ⟨k1 + matesOf m2 y, by rw [hh]; omega, by omega⟩
  have HEX : Hid ((bsM m1 m2).length = k1 + k2 ∧ (bsM m1 m2).getD x 0 = (ex : Int) ∧ (bsM m1 m2).getD (k1 + y) 0 = (ey : Int) ∧ ex < k1 + k2 ∧ ey < k1 + k2) := Lib.hid ⟨by rw [bsM_length, h1.hm.1, h2.hm.1], hex, hey, lex, ley⟩
  have HXI : Hid (-9223372036854775808 ≤ ((x : Nat) : Int) ∧ ((x : Nat) : Int) ≤ 9223372036854775807) := Lib.hid (by omega)
  have HYI : Hid (-9223372036854775808 ≤ ((y : Nat) : Int) ∧ ((y : Nat) : Int) ≤ 9223372036854775807) := Lib.hid (by omega)
  have HP1 := Lib.hid hp1
  have HP2 := Lib.hid hp2
  have k1i : (k1 : Int) ≤ 256 := by omega
  have k2i : (k2 : Int) ≤ 256 := by omega
  have xi0 : (0 : Int) ≤ (x : Int) := Int.natCast_nonneg _
  have yi0 : (0 : Int) ≤ (y : Int) := Int.natCast_nonneg _
  have xi1 : (x : Int) < (k1 : Int) := by omega
  have yi1 : (y : Int) < (k2 : Int) := by omega
  have hxe : ((x : Int) == -1) = false := by first | (simp; done) | (simp; omega)
  have hye : ((y : Int) == -1) = false := by first | (simp; done) | (simp; omega)
  have HK : Hid (k1 ≤ 256 ∧ k2 ≤ 256 ∧ x < k1 ∧ y < k2) := Lib.hid ⟨by omega, by omega, hx, hy⟩
  clear hb1 hb2 hb3 hsz hsz2 h1 h2 hv1 hv2 hM1 hM2 ek1 ek2 hp1 hp2 hex hey lex ley
  unfold dbox at hd1 hd2 hbx hb
  go_enter Try.func34, Try.ntmps34
  go_upto_region 1 with fail
  generalize ((w.alloc (.cells #[.slice A1 n1 c1, .slice B1 k1 d1, .int .i64 l1] 24)).alloc (.cells #[.slice A2 n2 c2, .slice B2 k2 d2, .int .i64 l2] 24)).alloc (.cells #[.slice none 0 0, .slice none 0 0, .int .i64 0] 24) = w0 at hd1 hd2 hbx hb ⊢
  rw [show w.heap.size + 1 + 1 = w.heap.size + 2 by omega]
  obtain ⟨ga, hga⟩ : ∃ ga, w.heap.size = ga := ⟨_, rfl⟩
  obtain ⟨gb, hgb⟩ : ∃ gb, w.heap.size + 1 = gb := ⟨_, rfl⟩
  obtain ⟨gr, hgr⟩ : ∃ gr, w.heap.size + 2 = gr := ⟨_, rfl⟩
  have HG : Hid (w.heap.size ≤ gr ∧ gr < w0.heap.size) := Lib.hid ⟨by omega, by rw [← hgr]; exact hbx.1.2.2.2⟩
  rw [hga] at hd1
  rw [hgb] at hd2 ⊢
  rw [hgr] at hbx ⊢
  rw [hga]
  have HB := Lib.hid hb
  have HBX := Lib.hid hbx
  obtain ⟨a0, a1, a2, alt⟩ := hd1
  obtain ⟨b0, b1, b2, blt⟩ := hd2
  have CV1 := Lib.hid ((H1.out.keep hb).valid c1 d1 l1 true HV1.out)
  have CV2 : ∀ W, Below w0.heap.size w0 W → Hid (Calls Try.prog 18 #[dval A2 n2 c2 B2 k2 d2 l2] W fun e w' => e = .returned (.bool true) ∧ Below W.heap.size W w') := fun W hW => Lib.hid ((H2.out.keep (below_step HB.out hW)).valid c2 d2 l2 true HV2.out)
  have CP1 : ∀ W, Below w0.heap.size w0 W → Hid (Calls Try.prog 79 #[dval A1 n1 c1 B1 k1 d1 l1, .int .i64 (x : Nat)] W fun e w' => e = .returned (.bool true) ∧ Below W.heap.size W w') := fun W hW => Lib.hid (by have h := place_any A1 B1 n1 c1 k1 d1 l1 (x : Nat) s1 m1 W (H1.out.keep (below_step HB.out hW)) HXI.out.1 HXI.out.2 (by omega); rw [HP1.out] at h; exact h)
  have CP2 : ∀ W, Below w0.heap.size w0 W → Hid (Calls Try.prog 79 #[dval A2 n2 c2 B2 k2 d2 l2, .int .i64 (y : Nat)] W fun e w' => e = .returned (.bool true) ∧ Below W.heap.size W w') := fun W hW => Lib.hid (by have h := place_any A2 B2 n2 c2 k2 d2 l2 (y : Nat) s2 m2 W (H2.out.keep (below_step HB.out hW)) HYI.out.1 HYI.out.2 (by omega); rw [HP2.out] at h; exact h)
  have XA : ∀ W, Below w0.heap.size w0 W → W.cell? ⟨ga, 0, none⟩ = some (.slice A1 n1 c1) ∧ W.cell? ⟨ga, 1, none⟩ = some (.slice B1 k1 d1) ∧ W.cell? ⟨ga, 2, none⟩ = some (.int .i64 l1) := fun W h => ⟨(h.cell (p := ⟨ga, 0, none⟩) alt).trans a0, (h.cell (p := ⟨ga, 1, none⟩) alt).trans a1, (h.cell (p := ⟨ga, 2, none⟩) alt).trans a2⟩
  have XB : ∀ W, Below w0.heap.size w0 W → W.cell? ⟨gb, 0, none⟩ = some (.slice A2 n2 c2) ∧ W.cell? ⟨gb, 1, none⟩ = some (.slice B2 k2 d2) ∧ W.cell? ⟨gb, 2, none⟩ = some (.int .i64 l2) := fun W h => ⟨(h.cell (p := ⟨gb, 0, none⟩) blt).trans b0, (h.cell (p := ⟨gb, 1, none⟩) blt).trans b1, (h.cell (p := ⟨gb, 2, none⟩) blt).trans b2⟩
  have HXA := Lib.hid XA
  have HXB := Lib.hid XB
  clear hga hgb hgr hb hbx XA XB
  go_upto_region 3 with (first
    | (go_at_call 18; ((with_reducible refine (CV2 _ hb1).out.mono ?_); rintro e w2 ⟨rfl, hb2'⟩; have hb2 := below_step hb1 hb2'))
    | (go_at_call 18; ((with_reducible refine CV1.out.mono ?_); rintro e w1 ⟨rfl, hb1⟩; obtain ⟨y0, y1, y2⟩ := HXB.out w1 hb1)))
  obtain ⟨x0, x1, x2⟩ := HXA.out w2 hb2
  clear y0 y1 y2 a0 a1 a2 b0 b1 b2
  go_upto_region 5 with (first
    | (go_at_call 79; ((with_reducible refine (CP2 _ hb3).out.mono ?_); rintro e w4 ⟨rfl, hb4'⟩; have hb4 := below_step hb3 hb4'))
    | (go_at_call 79; ((with_reducible refine (CP1 _ hb2).out.mono ?_); rintro e w3 ⟨rfl, hb3'⟩; have hb3 := below_step hb2 hb3'; obtain ⟨y0, y1, y2⟩ := HXB.out w3 hb3)))
  clear x0 x1 x2 y0 y1 y2
  obtain ⟨x0, x1, x2⟩ := HXA.out w4 hb4
  obtain ⟨y0, y1, y2⟩ := HXB.out w4 hb4
  have CB5 := CB w4 (below_step HB.out hb4)
  go_upto_region 6 with (go_at_call 56; ((with_reducible refine CB5.out.mono ?_); rintro e w5 ⟨A3, c3, B3, d3, rfl, oS, oM, hne, hb5⟩))
  have hbq := below_alloc w5 (dbox A3 (n1 + n2) c3 B3 (k1 + k2) d3 (l1 + l2))
  have hbs := DB.new w5 A3 (n1 + n2) c3 B3 (k1 + k2) d3 (l1 + l2)
  have hsf : ∀ i, (w5.alloc (dbox A3 (n1 + n2) c3 B3 (k1 + k2) d3 (l1 + l2))).frozen? ⟨w5.heap.size, i, none⟩ = false := fun i => World.frozen?_alloc_at _ _ _ _ rfl
  have oS6 := oS.keep hbq
  have oM6 := oM.keep hbq
  have hb6 := below_step (below_step hb4 hb5) hbq
  have hS5 := fun g e => World.ownsRow.lt oS g e
  have hM5 := fun g e => World.ownsRow.lt oM g e
  have hle45 : w.heap.size ≤ w4.heap.size := Nat.le_trans HB.out.size hb4.size
  have HQ : Hid ((∀ g, (Value.slice A3 (n1 + n2) c3).ownBlock = some g → w4.heap.size ≤ g ∧ g < w5.heap.size) ∧ (∀ g, (Value.slice B3 (k1 + k2) d3).ownBlock = some g → w4.heap.size ≤ g ∧ g < w5.heap.size) ∧ w.heap.size ≤ w4.heap.size ∧ w0.heap.size ≤ w4.heap.size ∧ w4.heap.size ≤ w5.heap.size) := Lib.hid ⟨hS5, hM5, hle45, hb4.size, hb5.size⟩
  unfold dbox at hbq hbs hsf oS6 oM6 hb6
  generalize w5.alloc (.cells #[.slice A3 (n1 + n2) c3, .slice B3 (k1 + k2) d3, .int .i64 (l1 + l2)] 24) = w6 at hbq hbs hsf oS6 oM6 hb6 ⊢
  obtain ⟨gs, hgs⟩ : ∃ gs, w5.heap.size = gs := ⟨_, rfl⟩
  rw [hgs] at hbs hsf ⊢
  have HGS := Lib.hid hgs
  have HS6 := Lib.hid oS6
  have HM6 := Lib.hid oM6
  have HB6 := Lib.hid hb6
  have HNE := Lib.hid hne
  have HBS := Lib.hid hbs
  obtain ⟨t0, t1, t2, tlt⟩ := hbs
  have g2 := hsf 2
  have HSF := Lib.hid hsf
  clear x0 x1 x2 y0 y1 y2 oS oM hS5 hM5 hle45 hsf hbq oS6 oM6 hb6 hgs hne CB5 CB hb5
  obtain ⟨x0, x1, x2⟩ := HXA.out w6 HB6.out
  obtain ⟨K, hK⟩ : ∃ K, k1 + k2 = K := ⟨_, rfl⟩
  rw [hK] at t1 HBS HM6 HNE HQ HEX ⊢
  have HKK := Lib.hid hK
  obtain ⟨g, cB, hsl⟩ := HM6.out.form_pos HEX.out.1 (by omega)
  injection hsl with e1 e2 e3
  subst e1; subst e3
  clear e2
  obtain ⟨z, hz⟩ : ∃ z, k1 + y = z := ⟨_, rfl⟩
  have hzi : (k1 : Int) + (y : Int) = (z : Int) := by omega
  have HZ := Lib.hid hz
  have z0 : (0 : Int) ≤ (z : Int) := Int.natCast_nonneg _
  have hwz : IntKind.i64.wrap ((z : Nat) : Int) = (z : Int) := IntWalk.i64_in _ (by omega)
  rw [hz] at HEX ⊢
  have CX := Lib.hid (xch_any A3 (n1 + n2) c3 g K d3 w4.heap.size (l1 + l2) (bsM m1 m2) x z ex ey w6 HM6.out HEX.out.1 (by have := HK.out; omega) (by have := HK.out; omega) (by have := HK.out; omega) HEX.out.2.1 HEX.out.2.2.1 HEX.out.2.2.2.1 HEX.out.2.2.2.2)
  have CL : ∀ W, Hid (Calls Try.prog 55 #[dval A3 (n1 + n2) c3 (some ⟨g, 0, none⟩) K d3 (l1 + l2)] W fun e w' => e = .returned (.tuple #[dval A3 (n1 + n2) c3 (some ⟨g, 0, none⟩) K d3 (l1 + l2), .int .i64 0]) ∧ Below W.heap.size W w') := fun W => Lib.hid ((limited_any A3 (some ⟨g, 0, none⟩) (n1 + n2) c3 K d3 (l1 + l2) W (by omega)).mono fun e w' h => by unfold LmPost at h; rw [if_pos ⟨hn, hl⟩] at h; exact h)
  have HNG : Hid (gs ≠ g ∧ gr ≠ g ∧ w.heap.size ≤ g ∧ gs < w6.heap.size) := Lib.hid (by
    have h1 := HQ.out.2.1 g rfl
    have h2 := HG.out
    have h3 := HGS.out
    have h4 := HQ.out
    exact ⟨by omega, by omega, by omega, tlt⟩)
  clear hK hz t2 g2
  have t2 := HBS.out.2.2.1
  go_upto_region 9 with (go_at_call 80; ((with_reducible refine CX.out.mono ?_); rintro e w7 ⟨rfl, oX, hg7⟩))
  have far7 : ∀ i v, w6.cell? ⟨gs, i, none⟩ = some v → w7.cell? ⟨gs, i, none⟩ = some v := fun i v h => (hg7.cell_far ⟨gs, i, none⟩ HNG.out.2.2.2 (by have := HNG.out.1; simp; omega)).trans h
  have v0 := far7 0 _ t0
  have v1 := far7 1 _ t1
  have v2 := far7 2 _ t2
  have HPQ : Hid (BxZ w7 gr ∧ OI w7 w4.heap.size (.slice A3 (n1 + n2) c3) (s1 ++ s2) ∧ OI w7 w4.heap.size (.slice (some ⟨g, 0, none⟩) K d3) (exL (bsM m1 m2) x z) ∧ Below w.heap.size w w7) := Lib.hid (by
    have hn := HNG.out
    have hne := HNE.out g rfl
    refine ⟨(HBX.out.kp HB6.out).kg hg7 (by simp; omega), HS6.out.grown hg7 ?_, oX, (below_step HB.out HB6.out).grown hg7 ((below_step HB.out HB6.out).size) (fun q e => by injection e with e; omega)⟩
    cases e : (Value.slice A3 (n1 + n2) c3).ownBlock with
    | none => exact .inl rfl
    | some q => exact .inr (by rw [← e]; exact hne))
  clear t0 t1 t2 oX hg7 far7 x0 x1 x2
  go_wp2_with (go_at_call 55; ((with_reducible refine (CL _).out.mono ?_); rintro e w8 ⟨rfl, hb8⟩; have hr := HPQ.out.1.kp hb8; have r0 := hr.1.1; have r1 := hr.1.2.1; have r2 := hr.1.2.2.1; have f0 := hr.2 0; have f1 := hr.2 1; have f2 := hr.2 2))
  obtain ⟨q0, q1, q2⟩ := set3_cells w8 gr (.slice A3 (n1 + n2) c3) (.slice (some ⟨g, 0, none⟩) K d3) (.int .i64 (l1 + l2)) r0 r1 r2
  have HF : Hid (SmPost w (n1 + n2) (k1 + k2) (l1 + l2) (s1 ++ s2) (exL (bsM m1 m2) x (k1 + y)) (.returned (.tuple #[dval A3 (n1 + n2) c3 (some ⟨g, 0, none⟩) K d3 (l1 + l2), .int .i64 0])) (set3 w8 gr (.slice A3 (n1 + n2) c3) (.slice (some ⟨g, 0, none⟩) K d3) (.int .i64 (l1 + l2)))) := Lib.hid (by
    have hq := HQ.out
    have hg := HG.out
    obtain ⟨_, p1, p2, p3⟩ := HPQ.out
    rw [HKK.out, HZ.out]
    refine ⟨A3, c3, some ⟨g, 0, none⟩, d3, rfl, ((p1.keep hb8).set3 (fun e => ?_) _ _ _).mono hq.2.2.1, ((p2.keep hb8).set3 (fun e => ?_) _ _ _).mono hq.2.2.1, set3_below (below_step p3 hb8) hg.1 _ _ _⟩
    · have := hq.1 _ e; omega
    · have := hq.2.1 _ e; omega)
  exact bodyPost_ret (v := .tuple #[dval A3 (n1 + n2) c3 (some ⟨g, 0, none⟩) K d3 (l1 + l2), .int .i64 0]) (by simp [results, Try.results34, go_sem, q0, q1, q2]) rfl HF.out

end Go.Proofs.Ytkfjledhnakfoaa

/- The examples of the chapter, computed. -/
namespace Go.Proofs.Ytkfjledhnakfoaa
open Go.RowKit

def trS : List Int := [1, 1, 1]
def trM : List Int := [9, 4, 7, 10, 1, 8, 11, 2, 5, 0, 3, 6]
def kkS : List Int := [1]
def kkM : List Int := [1, 0, 3, 2]

theorem tr_lab : IsLab (matesOf trM) 12 3 (fun _ => 0) := by
  refine ⟨fun c hc => ⟨Nat.zero_le _, ?_⟩, fun _ _ => rfl⟩
  have h0 : Conn (matesOf trM) 12 0 2 := Conn.step 0 (by omega) (Conn.refl 0)
  have h1 : Conn (matesOf trM) 12 0 1 := Conn.step 1 (by omega) (Conn.refl 0)
  match c, hc with
  | 0, _ => exact .refl _
  | 1, _ => exact h1.symm
  | 2, _ => exact h0.symm
theorem kk_lab : IsLab (matesOf kkM) 4 1 (fun _ => 0) := by
  refine ⟨fun c hc => ⟨Nat.zero_le _, ?_⟩, fun _ _ => rfl⟩
  match c, hc with
  | 0, _ => exact .refl _
theorem tr_sph : sphM trM 3 = true := by
  show sphB (ufLab (matesOf trM) 12) (ff (matesOf trM)) (4 * 3) 3 = true
  rw [sphB_congr (G := fun _ => 0) fun c hc => (ufLab_isLab (matesOf trM) 12 3).unique tr_lab c hc]
  decide +kernel
theorem kk_sph : sphM kkM 1 = true := by
  show sphB (ufLab (matesOf kkM) 4) (ff (matesOf kkM)) (4 * 1) 1 = true
  rw [sphB_congr (G := fun _ => 0) fun c hc => (ufLab_isLab (matesOf kkM) 4 1).unique kk_lab c hc]
  decide +kernel
theorem tr_valid : validB trS trM 0 = true := by
  unfold validB
  rw [show trS.length = 3 from rfl, tr_sph]
  decide +kernel
theorem kk_valid : validB kkS kkM 0 = true := by
  unfold validB
  rw [show kkS.length = 1 from rfl, kk_sph]
  decide +kernel
theorem tr_faces : facesM trS trM 0 = [[0, 8, 4], [1, 7], [2, 6, 10], [3, 9], [5, 11]] := by
  unfold facesM; rw [if_pos tr_valid]; decide +kernel
theorem tr_strands : strandsM trS trM 0 = [[1, 6, 9, 2, 5, 10]] := by
  unfold strandsM; rw [if_pos tr_valid]; decide +kernel
theorem kk_faces : facesM kkS kkM 0 = [[0], [1, 3], [2]] := by
  unfold facesM; rw [if_pos kk_valid]; decide +kernel

end Go.Proofs.Ytkfjledhnakfoaa

/- Plain: a diagram is alternating exactly if its strands alternate. -/
namespace Go.Proofs.Ytkfjledhnakfoaa
open Go.RowKit

def okH (m : List Int) (z : Int) : Bool := decide (z.toNat % 2 ≠ fs (matesOf m) z.toNat % 2)
/-- The first i passages of a strand and those behind them differ. -/
def stOk (m : List Int) (S : List Int) (i : Nat) : Bool := (List.range i).all fun j => okH m (S.getD j 0)
def ssOk (m : List Int) (xss : List (List Int)) (k : Nat) : Bool := (List.range k).all fun j => stOk m (xss.getD j []) (xss.getD j []).length
theorem stOk_succ (m : List Int) (S : List Int) (i : Nat) : stOk m S (i + 1) = (stOk m S i && okH m (S.getD i 0)) := by unfold stOk; rw [List.range_succ, List.all_append]; simp
theorem ssOk_succ (m : List Int) (xss : List (List Int)) (k : Nat) : ssOk m xss (k + 1) = (ssOk m xss k && stOk m (xss.getD k []) (xss.getD k []).length) := by unfold ssOk; rw [List.range_succ, List.all_append]; simp
theorem all_range {α : Type} (p : α → Bool) (l : List α) (d : α) : ((List.range l.length).all fun j => p (l.getD j d)) = l.all p := by
  rw [Bool.eq_iff_iff, List.all_eq_true, List.all_eq_true]
  constructor
  · intro h x hx
    obtain ⟨i, hi, rfl⟩ := List.mem_iff_getElem.1 hx
    have := h i (List.mem_range.2 hi)
    simpa [List.getD, hi] using this
  · intro h i hi
    have hi' := List.mem_range.1 hi
    have := h l[i] (List.getElem_mem hi')
    simpa [List.getD, hi'] using this
theorem fs_par (m : Nat → Nat) (h : Nat) : fs m h % 2 = m h % 2 := by unfold fs trn; omega
theorem strands_eq {s m : List Int} {lp : Int} (hv : validB s m lp = true) : strandsM s m lp = (reprs (fs (matesOf m)) m.length (outB s)).map (fun h => itl (fs (matesOf m)) h (per (fs (matesOf m)) m.length h)) := by
  have : strandsM s m lp = cycL (fs (matesOf m)) m.length (outB s) m.length := by simp [strandsM, hv]
  rw [this]; exact cycL_reprs _ _ _
theorem ssOk_alt {s m : List Int} {lp : Int} (hv : validB s m lp = true) : ssOk m (strandsM s m lp) (strandsM s m lp).length = altM s m lp := by
  obtain ⟨v1, _, v3, _⟩ := validB_out hv
  obtain ⟨_, l2, _, _⟩ := limB_out v1
  have i := matesOf_invol v3 (rfl : m.length = m.length)
  have hp : Perm (fs (matesOf m)) m.length := by rw [l2] at i ⊢; exact i.perm 2
  have e1 : ssOk m (strandsM s m lp) (strandsM s m lp).length = (strandsM s m lp).all (fun S => S.all (okH m)) := by
    rw [← all_range _ (strandsM s m lp) []]
    unfold ssOk stOk
    congr 1
    funext j
    exact all_range _ _ _
  rw [e1, strands_eq hv]
  unfold altM altK
  rw [hv, Bool.true_and, Bool.eq_iff_iff, List.all_eq_true, List.all_eq_true]
  constructor
  · intro h x hx
    have hx' := List.mem_range.1 hx
    have key : ∀ y, y < m.length → outB s y = true → y % 2 ≠ matesOf m y % 2 := fun y hy ho => by
      obtain ⟨r, hr, o⟩ := reprs_ex hp hy ho
      obtain ⟨k, hk, e⟩ := hp.orb_lt (reprs_mem.1 hr).1 o
      have h1 := List.all_eq_true.1 (h _ (List.mem_map.2 ⟨r, hr, rfl⟩)) (y : Int) (by unfold itl; exact List.mem_map.2 ⟨k, List.mem_range.2 hk, by rw [e]⟩)
      unfold okH at h1
      have h2 := of_decide_eq_true h1
      rw [Int.toNat_natCast, fs_par] at h2
      exact h2
    obtain ⟨y, e0, h1, h2, h4⟩ := pOK_out ((pairB_iff _ _).1 v3 x hx') rfl
    have e : matesOf m x = y := by unfold matesOf; rw [e0]; simp
    rw [decide_eq_true_eq]
    cases ho : outB s x with
    | true => exact key x hx' ho
    | false =>
      have hoy : outB s y = true := by rw [ho] at h4; cases hq : outB s y with
        | true => rfl
        | false => rw [hq] at h4; exact absurd rfl h4
      have h5 := key y h1 hoy
      have e2 : matesOf m y = x := by rw [← e]; exact i.inv x hx'
      rw [e2] at h5
      rw [e]
      exact fun q => h5 q.symm
  · intro h S hS
    obtain ⟨r, hr, rfl⟩ := List.mem_map.1 hS
    rw [List.all_eq_true]
    intro z hz
    unfold itl at hz
    obtain ⟨k, _, rfl⟩ := List.mem_map.1 hz
    have h1 := h (it (fs (matesOf m)) k r) (List.mem_range.2 (hp.it_lt (reprs_mem.1 hr).1 k))
    unfold okH
    rw [Int.toNat_natCast, fs_par]
    exact h1
/-- What the law reads of a strand. -/
theorem strands_row {s m : List Int} {lp : Int} (hv : validB s m lp = true) {k : Nat} (hk : k < (strandsM s m lp).length) :
    0 < ((strandsM s m lp).getD k []).length ∧ ((strandsM s m lp).getD k []).length ≤ 256 ∧ ∀ i, i < ((strandsM s m lp).getD k []).length → ∃ h : Nat, h < 256 ∧ fs (matesOf m) h < 256 ∧ ((strandsM s m lp).getD k []).getD i 0 = (h : Int) ∧ ((strandsM s m lp).getD k []).getD ((i + 1) % ((strandsM s m lp).getD k []).length) 0 = (fs (matesOf m) h : Int) := by
  obtain ⟨v1, _, v3, _⟩ := validB_out hv
  obtain ⟨l1, l2, _, _⟩ := limB_out v1
  have i := matesOf_invol v3 (rfl : m.length = m.length)
  have hp : Perm (fs (matesOf m)) m.length := by rw [l2] at i ⊢; exact i.perm 2
  rw [strands_eq hv] at hk ⊢
  rw [List.length_map] at hk
  have e : ((reprs (fs (matesOf m)) m.length (outB s)).map (fun h => itl (fs (matesOf m)) h (per (fs (matesOf m)) m.length h))).getD k [] = itl (fs (matesOf m)) ((reprs (fs (matesOf m)) m.length (outB s))[k]) (per (fs (matesOf m)) m.length ((reprs (fs (matesOf m)) m.length (outB s))[k])) := by
    rw [List.getD_eq_getElem?_getD, List.getElem?_map, List.getElem?_eq_getElem hk]; rfl
  rw [e]
  have hm := (reprs_mem.1 (List.getElem_mem hk)).1
  obtain ⟨r, hr⟩ : ∃ r, (reprs (fs (matesOf m)) m.length (outB s))[k] = r := ⟨_, rfl⟩
  rw [hr] at hm ⊢
  obtain ⟨p1, p2, p3⟩ := hp.per_spec hm
  rw [itl_length]
  refine ⟨per_pos _ _ _, by omega, fun j hj => ⟨it (fs (matesOf m)) j r, ?_, ?_, itl_getD _ _ _ _ hj, ?_⟩⟩
  · have := hp.it_lt hm j; omega
  · have := hp.it_lt hm (j + 1)
    show it (fs (matesOf m)) (j + 1) r < 256
    omega
  · by_cases hq : j + 1 = per (fs (matesOf m)) m.length r
    · rw [hq, Nat.mod_self, itl_getD _ _ _ _ (per_pos _ _ _)]
      show ((it (fs (matesOf m)) 0 r : Nat) : Int) = ((it (fs (matesOf m)) (j + 1) r : Nat) : Int)
      rw [hq, p1]
      rfl
    · rw [Nat.mod_eq_of_lt (by omega), itl_getD _ _ _ _ (by omega)]
      rfl
theorem altM_small (s m : List Int) (lp : Int) : (strandsM s m lp).length ≤ 256 := by
  unfold strandsM
  split
  · rename_i hv
    obtain ⟨v1, _, _, _⟩ := validB_out hv
    obtain ⟨l1, l2, _, _⟩ := limB_out v1
    have := cycL_length (fs (matesOf m)) m.length (outB s) m.length
    omega
  · simp

end Go.Proofs.Ytkfjledhnakfoaa
