/- Walk: the reference's Sum. -/
import Derived.Test.YtkfjledhnakfoaaBCnUniRef
import Derived.Test.YtkfjledhnakfoaaA16
namespace Go.Proofs.Ytkfjledhnakfoaa
open Go.RowKit

def RsPost (w : World) (n k : Nat) (l : Int) (s m : List Int) (e : Ending) (w' : World) : Prop :=
  ∃ A cs B cm, e = .returned (dval A n cs B k cm l) ∧ OI w' w.heap.size (.slice A n cs) s ∧ OI w' w.heap.size (.slice B k cm) m ∧ Below w.heap.size w w'

set_option maxHeartbeats 6400000 in
set_option maxRecDepth 100000 in
theorem rsum_loop (A1 B1 A2 B2 : Option Addr) (n1 c1 k1 d1 n2 c2 k2 d2 : Nat) (l1 l2 : Int) (x y : Int) (s1 m1 s2 m2 : List Int) (w : World) (h1 : DV w A1 n1 B1 k1 s1 m1) (h2 : DV w A2 n2 B2 k2 s2 m2) (hv1 : validB s1 m1 l1 = true) (hv2 : validB s2 m2 l2 = true)
    (hxy : x < 0 ∨ y < 0) :
    Calls Try.prog 36 #[dval A1 n1 c1 B1 k1 d1 l1, .int .i64 x, dval A2 n2 c2 B2 k2 d2 l2, .int .i64 y] w (RsPost w (n1 + n2) (k1 + k2) (l1 + l2 - 1) (s1 ++ s2) (bsM m1 m2)) := by
  obtain ⟨ek1, en1, hM1, lo1, hi1⟩ := cn_data hv1 h1.hs.1 h1.hm.1
  obtain ⟨ek2, en2, hM2, lo2, hi2⟩ := cn_data hv2 h2.hs.1 h2.hm.1
  have hb1 := below_alloc w (dbox A1 n1 c1 B1 k1 d1 l1)
  have hb2 := below_alloc (w.alloc (dbox A1 n1 c1 B1 k1 d1 l1)) (dbox A2 n2 c2 B2 k2 d2 l2)
  have hb3 := below_alloc ((w.alloc (dbox A1 n1 c1 B1 k1 d1 l1)).alloc (dbox A2 n2 c2 B2 k2 d2 l2)) (.cells #[.slice none 0 0, .slice none 0 0, .int .i64 0] 24)
  have hd1 := ((DB.new w A1 n1 c1 B1 k1 d1 l1).keep hb2).keep hb3
  have hd2 := (DB.new (w.alloc (dbox A1 n1 c1 B1 k1 d1 l1)) A2 n2 c2 B2 k2 d2 l2).keep hb3
  have hbx := bxz_new ((w.alloc (dbox A1 n1 c1 B1 k1 d1 l1)).alloc (dbox A2 n2 c2 B2 k2 d2 l2))
  have hb := below_step (below_step hb1 hb2) hb3
  have hsz : (w.alloc (dbox A1 n1 c1 B1 k1 d1 l1)).heap.size = w.heap.size + 1 := by simp
  have hsz2 : ((w.alloc (dbox A1 n1 c1 B1 k1 d1 l1)).alloc (dbox A2 n2 c2 B2 k2 d2 l2)).heap.size = w.heap.size + 2 := by simp
  rw [hsz] at hd2
  rw [hsz2] at hbx
  have CU := Lib.hid (runion_any A1 B1 A2 B2 n1 c1 k1 d1 n2 c2 k2 d2 l1 l2 s1 m1 s2 m2 _ (h1.keep hb) (h2.keep hb) hv1 hv2)
  have HLM : Hid ((bsM m1 m2).length = k1 + k2) := Lib.hid (by rw [bsM_length, h1.hm.1, h2.hm.1])
  have kb1 : k1 ≤ 256 := by omega
  have kb2 : k2 ≤ 256 := by omega
  clear hb1 hb2 hb3 hsz hsz2 h1 h2 hv1 hv2 hM1 hM2 ek1 ek2
  unfold dbox at hd1 hd2 hbx hb CU
  go_enter Try.func36, Try.ntmps36
  go_upto_region 1 with fail
  generalize ((w.alloc (.cells #[.slice A1 n1 c1, .slice B1 k1 d1, .int .i64 l1] 24)).alloc (.cells #[.slice A2 n2 c2, .slice B2 k2 d2, .int .i64 l2] 24)).alloc (.cells #[.slice none 0 0, .slice none 0 0, .int .i64 0] 24) = w0 at hd1 hd2 hbx hb CU ⊢
  rw [show w.heap.size + 1 + 1 = w.heap.size + 2 by omega]
  obtain ⟨ga, hga⟩ : ∃ ga, w.heap.size = ga := ⟨_, rfl⟩
  obtain ⟨gb, hgb⟩ : ∃ gb, w.heap.size + 1 = gb := ⟨_, rfl⟩
  obtain ⟨gr, hgr⟩ : ∃ gr, w.heap.size + 2 = gr := ⟨_, rfl⟩
  have HG : Hid (w.heap.size ≤ gr ∧ gr < w0.heap.size) := Lib.hid ⟨by omega, by rw [← hgr]; exact hbx.1.2.2.2⟩
  rw [hga] at hd1
  rw [hgb] at hd2 ⊢
  rw [hgr] at hbx ⊢
  rw [hga]
  have HB := Lib.hid hb
  have HBX := Lib.hid hbx
  have HD := Lib.hid hd1
  obtain ⟨a0, a1, a2, alt⟩ := hd1
  obtain ⟨b0, b1, b2, blt⟩ := hd2
  clear hga hgb hgr hb hbx
  go_upto_region 2 with (go_at_call 17; ((with_reducible refine CU.out.mono ?_); rintro e w5 ⟨A3, c3, B3, d3, rfl, oS, oM, hne, hb5⟩))
  have hbq := below_alloc w5 (dbox A3 (n1 + n2) c3 B3 (k1 + k2) d3 (l1 + l2))
  have hbs := DB.new w5 A3 (n1 + n2) c3 B3 (k1 + k2) d3 (l1 + l2)
  have hsf : ∀ i, (w5.alloc (dbox A3 (n1 + n2) c3 B3 (k1 + k2) d3 (l1 + l2))).frozen? ⟨w5.heap.size, i, none⟩ = false := fun i => World.frozen?_alloc_at _ _ _ _ rfl
  have oS6 := oS.keep hbq
  have oM6 := oM.keep hbq
  have hb6 := below_step hb5 hbq
  have hS5 := fun g e => World.ownsRow.lt oS g e
  have hM5 := fun g e => World.ownsRow.lt oM g e
  have HQ : Hid ((∀ g, (Value.slice A3 (n1 + n2) c3).ownBlock = some g → w0.heap.size ≤ g ∧ g < w5.heap.size) ∧ (∀ g, (Value.slice B3 (k1 + k2) d3).ownBlock = some g → w0.heap.size ≤ g ∧ g < w5.heap.size) ∧ w.heap.size ≤ w0.heap.size ∧ w0.heap.size ≤ w5.heap.size) := Lib.hid ⟨hS5, hM5, HB.out.size, hb5.size⟩
  unfold dbox at hbq hbs hsf oS6 oM6 hb6
  generalize w5.alloc (.cells #[.slice A3 (n1 + n2) c3, .slice B3 (k1 + k2) d3, .int .i64 (l1 + l2)] 24) = w6 at hbq hbs hsf oS6 oM6 hb6 ⊢
  obtain ⟨gs, hgs⟩ : ∃ gs, w5.heap.size = gs := ⟨_, rfl⟩
  rw [hgs] at hbs hsf ⊢
  have HGS := Lib.hid hgs
  have HS6 := Lib.hid oS6
  have HM6 := Lib.hid oM6
  have HB6 := Lib.hid hb6
  have HNE := Lib.hid hne
  have HBS := Lib.hid hbs
  have HSF := Lib.hid hsf
  obtain ⟨t0, t1, t2, tlt⟩ := hbs
  have g2 := hsf 2
  clear oS oM hS5 hM5 hsf hbq oS6 oM6 hb6 hgs hne hb5 a0 a1 a2 b0 b1 b2 CU
  have hw1 : IntKind.i64.wrap (l1 + l2 - 1) = l1 + l2 - 1 := IntWalk.i64_in _ (by omega)
  have HF : Hid (RsPost w (n1 + n2) (k1 + k2) (l1 + l2 - 1) (s1 ++ s2) (bsM m1 m2) (.returned (dval A3 (n1 + n2) c3 B3 (k1 + k2) d3 (l1 + l2 - 1))) (set3 (w6.setCell ⟨gs, 2, none⟩ (.int .i64 (l1 + l2 - 1))) gr (.slice A3 (n1 + n2) c3) (.slice B3 (k1 + k2) d3) (.int .i64 (l1 + l2 - 1)))) := Lib.hid (by
    have hq := HQ.out
    have hg := HG.out
    have hgs := HGS.out
    have o1 := HS6.out.far (p := ⟨gs, 2, none⟩) (fun e => by have := hq.1 _ e; simp at this; omega) (.int .i64 (l1 + l2 - 1))
    have o2 := HM6.out.far (p := ⟨gs, 2, none⟩) (fun e => by have := hq.2.1 _ e; simp at this; omega) (.int .i64 (l1 + l2 - 1))
    refine ⟨A3, c3, B3, d3, rfl, (o1.set3 (fun e => ?_) _ _ _).mono hq.2.2.1, (o2.set3 (fun e => ?_) _ _ _).mono hq.2.2.1, set3_below (below_step HB.out (below_set HB6.out (by omega) _)) hg.1 _ _ _⟩
    · have := hq.1 _ e; omega
    · have := hq.2.1 _ e; omega)
  have hgrs : gr ≠ gs := by have := HG.out; have := HGS.out; have := HQ.out; omega
  obtain ⟨⟨r0, r1, r2, rlt⟩, rf⟩ := HBX.out.kp HB6.out
  have f0 := rf 0
  have f1 := rf 1
  have f2 := rf 2
  obtain ⟨q0, q1, q2⟩ := set3_cells (w6.setCell ⟨gs, 2, none⟩ (.int .i64 (l1 + l2 - 1))) gr (.slice A3 (n1 + n2) c3) (.slice B3 (k1 + k2) d3) (.int .i64 (l1 + l2 - 1)) ((World.cell?_setCell_other _ _ _ _ (by simp)).trans r0) ((World.cell?_setCell_other _ _ _ _ (by simp)).trans r1) ((World.cell?_setCell_other _ _ _ _ (by simp)).trans r2)
  by_cases hx0 : x < 0
  · clear hxy
    go_wp2
    exact bodyPost_ret (v := dval A3 (n1 + n2) c3 B3 (k1 + k2) d3 (l1 + l2 - 1)) (by simp [results, Try.results36, go_sem, q0, q1, q2]) rfl HF.out
  · have hy0 : y < 0 := by omega
    clear hxy
    go_wp2
    exact bodyPost_ret (v := dval A3 (n1 + n2) c3 B3 (k1 + k2) d3 (l1 + l2 - 1)) (by simp [results, Try.results36, go_sem, q0, q1, q2]) rfl HF.out

set_option maxHeartbeats 6400000 in
set_option maxRecDepth 100000 in
theorem rsum_ex (A1 B1 A2 B2 : Option Addr) (n1 c1 k1 d1 n2 c2 k2 d2 : Nat) (l1 l2 : Int) (x y : Nat) (s1 m1 s2 m2 : List Int) (w : World) (h1 : DV w A1 n1 B1 k1 s1 m1) (h2 : DV w A2 n2 B2 k2 s2 m2) (hv1 : validB s1 m1 l1 = true) (hv2 : validB s2 m2 l2 = true)
    (hx : x < k1) (hy : y < k2) :
    Calls Try.prog 36 #[dval A1 n1 c1 B1 k1 d1 l1, .int .i64 (x : Nat), dval A2 n2 c2 B2 k2 d2 l2, .int .i64 (y : Nat)] w (RsPost w (n1 + n2) (k1 + k2) (l1 + l2) (s1 ++ s2) (exL (bsM m1 m2) x (k1 + y))) := by
  obtain ⟨ek1, en1, hM1, lo1, hi1⟩ := cn_data hv1 h1.hs.1 h1.hm.1
  obtain ⟨ek2, en2, hM2, lo2, hi2⟩ := cn_data hv2 h2.hs.1 h2.hm.1
  have hb1 := below_alloc w (dbox A1 n1 c1 B1 k1 d1 l1)
  have hb2 := below_alloc (w.alloc (dbox A1 n1 c1 B1 k1 d1 l1)) (dbox A2 n2 c2 B2 k2 d2 l2)
  have hb3 := below_alloc ((w.alloc (dbox A1 n1 c1 B1 k1 d1 l1)).alloc (dbox A2 n2 c2 B2 k2 d2 l2)) (.cells #[.slice none 0 0, .slice none 0 0, .int .i64 0] 24)
  have hd1 := ((DB.new w A1 n1 c1 B1 k1 d1 l1).keep hb2).keep hb3
  have hd2 := (DB.new (w.alloc (dbox A1 n1 c1 B1 k1 d1 l1)) A2 n2 c2 B2 k2 d2 l2).keep hb3
  have hbx := bxz_new ((w.alloc (dbox A1 n1 c1 B1 k1 d1 l1)).alloc (dbox A2 n2 c2 B2 k2 d2 l2))
  have hb := below_step (below_step hb1 hb2) hb3
  have hsz : (w.alloc (dbox A1 n1 c1 B1 k1 d1 l1)).heap.size = w.heap.size + 1 := by simp
  have hsz2 : ((w.alloc (dbox A1 n1 c1 B1 k1 d1 l1)).alloc (dbox A2 n2 c2 B2 k2 d2 l2)).heap.size = w.heap.size + 2 := by simp
  rw [hsz] at hd2
  rw [hsz2] at hbx
  have CU := Lib.hid (runion_any A1 B1 A2 B2 n1 c1 k1 d1 n2 c2 k2 d2 l1 l2 s1 m1 s2 m2 _ (h1.keep hb) (h2.keep hb) hv1 hv2)
  have HLM : Hid ((bsM m1 m2).length = k1 + k2) := Lib.hid (by rw [bsM_length, h1.hm.1, h2.hm.1])
  have kb1 : k1 ≤ 256 := by omega
  have kb2 : k2 ≤ 256 := by omega
  obtain ⟨ex, hex, lex⟩ : ∃ ex : Nat, (bsM m1 m2).getD x 0 = (ex : Int) ∧ ex < k1 + k2 := by
    obtain ⟨e, l⟩ := hM1 x hx
    exact ⟨matesOf m1 x, by rw [bsM_lo _ _ (by rw [h1.hm.1]; exact hx)]; exact e, by omega⟩
  obtain ⟨ey, hey, ley⟩ : ∃ ey : Nat, (bsM m1 m2).getD (k1 + y) 0 = (ey : Int) ∧ ey < k1 + k2 := by
    obtain ⟨e, l⟩ := hM2 y hy
    have hh := bsM_hi m1 m2 (j := y) (by rw [h2.hm.1]; exact hy)
    rw [h1.hm.1, e] at hh
    exact ⟨k1 + matesOf m2 y, by rw [hh]; omega, by omega⟩
  have HEX : Hid ((bsM m1 m2).getD x 0 = (ex : Int) ∧ (bsM m1 m2).getD (k1 + y) 0 = (ey : Int)) := Lib.hid ⟨hex, hey⟩
  clear hex hey
  clear hb1 hb2 hb3 hsz hsz2 h1 h2 hv1 hv2 hM1 hM2 ek1 ek2
  unfold dbox at hd1 hd2 hbx hb CU
  go_enter Try.func36, Try.ntmps36
  go_upto_region 1 with fail
  generalize ((w.alloc (.cells #[.slice A1 n1 c1, .slice B1 k1 d1, .int .i64 l1] 24)).alloc (.cells #[.slice A2 n2 c2, .slice B2 k2 d2, .int .i64 l2] 24)).alloc (.cells #[.slice none 0 0, .slice none 0 0, .int .i64 0] 24) = w0 at hd1 hd2 hbx hb CU ⊢
  rw [show w.heap.size + 1 + 1 = w.heap.size + 2 by omega]
  obtain ⟨ga, hga⟩ : ∃ ga, w.heap.size = ga := ⟨_, rfl⟩
  obtain ⟨gb, hgb⟩ : ∃ gb, w.heap.size + 1 = gb := ⟨_, rfl⟩
  obtain ⟨gr, hgr⟩ : ∃ gr, w.heap.size + 2 = gr := ⟨_, rfl⟩
  have HG : Hid (w.heap.size ≤ gr ∧ gr < w0.heap.size) := Lib.hid ⟨by omega, by rw [← hgr]; exact hbx.1.2.2.2⟩
  rw [hga] at hd1
  rw [hgb] at hd2 ⊢
  rw [hgr] at hbx ⊢
  rw [hga]
  have HB := Lib.hid hb
  have HBX := Lib.hid hbx
  have HD := Lib.hid hd1
  obtain ⟨a0, a1, a2, alt⟩ := hd1
  obtain ⟨b0, b1, b2, blt⟩ := hd2
  clear hga hgb hgr hb hbx
  go_upto_region 2 with (go_at_call 17; ((with_reducible refine CU.out.mono ?_); rintro e w5 ⟨A3, c3, B3, d3, rfl, oS, oM, hne, hb5⟩))
  have hbq := below_alloc w5 (dbox A3 (n1 + n2) c3 B3 (k1 + k2) d3 (l1 + l2))
  have hbs := DB.new w5 A3 (n1 + n2) c3 B3 (k1 + k2) d3 (l1 + l2)
  have hsf : ∀ i, (w5.alloc (dbox A3 (n1 + n2) c3 B3 (k1 + k2) d3 (l1 + l2))).frozen? ⟨w5.heap.size, i, none⟩ = false := fun i => World.frozen?_alloc_at _ _ _ _ rfl
  have oS6 := oS.keep hbq
  have oM6 := oM.keep hbq
  have hb6 := below_step hb5 hbq
  have hS5 := fun g e => World.ownsRow.lt oS g e
  have hM5 := fun g e => World.ownsRow.lt oM g e
  have HQ : Hid ((∀ g, (Value.slice A3 (n1 + n2) c3).ownBlock = some g → w0.heap.size ≤ g ∧ g < w5.heap.size) ∧ (∀ g, (Value.slice B3 (k1 + k2) d3).ownBlock = some g → w0.heap.size ≤ g ∧ g < w5.heap.size) ∧ w.heap.size ≤ w0.heap.size ∧ w0.heap.size ≤ w5.heap.size) := Lib.hid ⟨hS5, hM5, HB.out.size, hb5.size⟩
  unfold dbox at hbq hbs hsf oS6 oM6 hb6
  generalize w5.alloc (.cells #[.slice A3 (n1 + n2) c3, .slice B3 (k1 + k2) d3, .int .i64 (l1 + l2)] 24) = w6 at hbq hbs hsf oS6 oM6 hb6 ⊢
  obtain ⟨gs, hgs⟩ : ∃ gs, w5.heap.size = gs := ⟨_, rfl⟩
  rw [hgs] at hbs hsf ⊢
  have HGS := Lib.hid hgs
  have HS6 := Lib.hid oS6
  have HM6 := Lib.hid oM6
  have HB6 := Lib.hid hb6
  have HNE := Lib.hid hne
  have HBS := Lib.hid hbs
  have HSF := Lib.hid hsf
  obtain ⟨t0, t1, t2, tlt⟩ := hbs
  have g2 := hsf 2
  clear oS oM hS5 hM5 hsf hbq oS6 oM6 hb6 hgs hne hb5 a0 a1 a2 b0 b1 b2 CU
  obtain ⟨e0, x1, e2, elt⟩ := HD.out.keep HB6.out
  obtain ⟨K, hK⟩ : ∃ K, k1 + k2 = K := ⟨_, rfl⟩
  obtain ⟨z, hz⟩ : ∃ z, k1 + y = z := ⟨_, rfl⟩
  have hzK : z < K := by omega
  have hxK : x < K := by omega
  have hzi : (y : Int) + (k1 : Int) = (z : Int) := by omega
  have hwz : IntKind.i64.wrap ((z : Nat) : Int) = (z : Int) := IntWalk.i64_in _ (by omega)
  rw [hK] at t1 HBS HM6 HNE HQ HLM lex ley ⊢
  rw [hz] at HEX ⊢
  obtain ⟨g, cB, hsl⟩ := HM6.out.form_pos HLM.out (by omega)
  injection hsl with i1 i2 i3
  subst i1; subst i3
  clear i2
  have hm1 := HM6.out
  have cc1 := hm1.cell x (by rw [HLM.out]; exact hxK)
  have cc2 := hm1.cell z (by rw [HLM.out]; exact hzK)
  rw [HEX.out.1] at cc1
  rw [HEX.out.2] at cc2
  have HE : Hid (exL (bsM m1 m2) x z = ((((bsM m1 m2).set x (ey : Int)).set ey (x : Int)).set z (ex : Int)).set ex (z : Int)) := Lib.hid (by unfold exL; rw [HEX.out.1, HEX.out.2]; simp)
  have hgg := HQ.out.2.1 g rfl
  have hgsg : gs ≠ g := by have := HGS.out; omega
  have HGG := Lib.hid hgg
  have hxz0 : (0 : Int) ≤ (x : Int) := Int.natCast_nonneg _
  have hxz1 : (x : Int) < (K : Int) := by omega
  have hzz0 : (0 : Int) ≤ (z : Int) := Int.natCast_nonneg _
  have hzz1 : (z : Int) < (K : Int) := by omega
  have p0 : (0 : Int) ≤ (ex : Int) := Int.natCast_nonneg _
  have p1 : (ex : Int) < (K : Int) := by omega
  have q0 : (0 : Int) ≤ (ey : Int) := Int.natCast_nonneg _
  have q1 : (ey : Int) < (K : Int) := by omega
  have hMi : (K : Int) ≤ 1000 := by omega
  have hyy0 : (0 : Int) ≤ (y : Int) := Int.natCast_nonneg _
  have hcx : ¬ (x : Int) < 0 := by omega
  have hcy : ¬ (y : Int) < 0 := by omega
  have HL := Lib.hid HLM.out
  have HZK := Lib.hid (And.intro hK hz)
  clear hm1 hgg hK hz hx hy hxK hzK lex ley
  go_wp2
  go_region
  obtain ⟨wA, hwA⟩ : ∃ wA, w6.drew = wA := ⟨_, rfl⟩
  have hA : OI wA w0.heap.size (.slice (some ⟨g, 0, none⟩) K d3) (bsM m1 m2) := by rw [← hwA]; exact HM6.out
  have GA : Hid (w6.grownBy wA (some g)) := Lib.hid (by rw [← hwA]; exact ⟨rfl, rfl, rfl, Nat.le_refl _, fun _ _ _ => rfl⟩)
  have dA : wA.cell? ⟨gs, 1, none⟩ = some (.slice (some ⟨g, 0, none⟩) K d3) := by rw [← hwA]; exact t1
  have c3 : wA.cell? ⟨g, x, none⟩ = some (.int .i64 (ex : Nat)) := by rw [← hwA]; exact cc1
  rw [hwA]
  have st1 := hA.set_ HL.out x (ey : Int)
  have l1' : ((bsM m1 m2).set x (ey : Int)).length = K := by simp [HL.out]
  have st2 := st1.1.set_ l1' ey (x : Int)
  have l2' : (((bsM m1 m2).set x (ey : Int)).set ey (x : Int)).length = K := by simp [HL.out]
  have f1 := oi_fz hA HL.out x
  have f2 := oi_fz st1.1 l1' ey
  have c4 := st1.1.cell ey (by omega)
  have dB : ((wA.setCell ⟨g, x, none⟩ (.int .i64 (ey : Int))).setCell ⟨g, ey, none⟩ (.int .i64 (x : Int))).cell? ⟨gs, 1, none⟩ = some (.slice (some ⟨g, 0, none⟩) K d3) := by
    rw [World.cell?_setCell_other _ _ _ _ (by first | (simp; done) | (simp; omega)), World.cell?_setCell_other _ _ _ _ (by first | (simp; done) | (simp; omega))]; exact dA
  have HB2 := Lib.hid st2.1
  have HG2 := Lib.hid (GA.out.trans (st1.2.trans st2.2))
  have HL2 := Lib.hid l2'
  obtain ⟨v4, hv4⟩ : ∃ v4, ((bsM m1 m2).set x (ey : Int)).getD ey 0 = v4 := ⟨_, rfl⟩
  rw [hv4] at c4
  clear st1 st2 l1' l2' hv4 hA hwA cc1 cc2 t0 t1 t2 e0 e2 x1
  go_wp2
  go_region
  obtain ⟨wB, hwB⟩ : ∃ wB, ((wA.setCell ⟨g, x, none⟩ (.int .i64 (ey : Int))).setCell ⟨g, ey, none⟩ (.int .i64 (x : Int))).drew = wB := ⟨_, rfl⟩
  have hB : OI wB w0.heap.size (.slice (some ⟨g, 0, none⟩) K d3) (((bsM m1 m2).set x (ey : Int)).set ey (x : Int)) := by rw [← hwB]; exact HB2.out
  have GB : Hid (w6.grownBy wB (some g)) := Lib.hid (by rw [← hwB]; have := HG2.out; exact ⟨this.os, this.tape, this.output, this.size, this.block⟩)
  have eB : wB.cell? ⟨gs, 1, none⟩ = some (.slice (some ⟨g, 0, none⟩) K d3) := by rw [← hwB]; exact dB
  rw [hwB]
  have c5 := hB.cell z (by have := HL2.out; omega)
  have st1 := hB.set_ HL2.out z (ex : Int)
  have l3 : ((((bsM m1 m2).set x (ey : Int)).set ey (x : Int)).set z (ex : Int)).length = K := by simp [HL.out]
  have st2 := st1.1.set_ l3 ex (z : Int)
  have f3 := oi_fz hB HL2.out z
  have f4 := oi_fz st1.1 l3 ex
  have c6 := st1.1.cell ex (by omega)
  have HOX : Hid (OI ((wB.setCell ⟨g, z, none⟩ (.int .i64 (ex : Int))).setCell ⟨g, ex, none⟩ (.int .i64 (z : Int))).drew w0.heap.size (.slice (some ⟨g, 0, none⟩) K d3) (exL (bsM m1 m2) x z)) := Lib.hid (by rw [HE.out]; exact st2.1)
  have HG7 : Hid (w6.grownBy ((wB.setCell ⟨g, z, none⟩ (.int .i64 (ex : Int))).setCell ⟨g, ex, none⟩ (.int .i64 (z : Int))).drew (some g)) := Lib.hid (by
    have := GB.out.trans (st1.2.trans st2.2); exact ⟨this.os, this.tape, this.output, this.size, this.block⟩)
  obtain ⟨v5, hv5⟩ : ∃ v5, (((bsM m1 m2).set x (ey : Int)).set ey (x : Int)).getD z 0 = v5 := ⟨_, rfl⟩
  rw [hv5] at c5
  obtain ⟨v6, hv6⟩ : ∃ v6, ((((bsM m1 m2).set x (ey : Int)).set ey (x : Int)).set z (ex : Int)).getD ex 0 = v6 := ⟨_, rfl⟩
  rw [hv6] at c6
  clear st1 st2 l3 hv5 hv6 hB hwB c3 c4 f1 f2 dA dB
  go_wp2
  go_region
  generalize ((wB.setCell ⟨g, z, none⟩ (.int .i64 (ex : Int))).setCell ⟨g, ex, none⟩ (.int .i64 (z : Int))).drew = w7 at HOX HG7 ⊢
  have hg7 := HG7.out
  have far7 : ∀ i v, w6.cell? ⟨gs, i, none⟩ = some v → w7.cell? ⟨gs, i, none⟩ = some v := fun i v h => (hg7.cell_far ⟨gs, i, none⟩ HBS.out.2.2.2 (by simp; omega)).trans h
  have y0 := far7 0 _ HBS.out.1
  have y1 := far7 1 _ HBS.out.2.1
  have y2 := far7 2 _ HBS.out.2.2.1
  have HPQ : Hid (BxZ w7 gr ∧ OI w7 w0.heap.size (.slice A3 (n1 + n2) c3) (s1 ++ s2) ∧ OI w7 w0.heap.size (.slice (some ⟨g, 0, none⟩) K d3) (exL (bsM m1 m2) x z) ∧ Below w.heap.size w w7) := Lib.hid (by
    have hne := HNE.out g rfl
    have hgr := HG.out
    have hgg := HGG.out
    have hq := HQ.out
    refine ⟨(HBX.out.kp HB6.out).kg hg7 (by simp; omega), HS6.out.grown hg7 ?_, HOX.out, (below_step HB.out HB6.out).grown hg7 ((below_step HB.out HB6.out).size) (fun q e => by injection e with e; omega)⟩
    cases e : (Value.slice A3 (n1 + n2) c3).ownBlock with
    | none => exact .inl rfl
    | some q => exact .inr (by rw [← e]; exact hne))
  have hr := HPQ.out.1
  have r0 := hr.1.1
  have r1 := hr.1.2.1
  have r2 := hr.1.2.2.1
  have f0 := hr.2 0
  have f1 := hr.2 1
  have f2 := hr.2 2
  obtain ⟨u0, u1, u2⟩ := set3_cells w7 gr (.slice A3 (n1 + n2) c3) (.slice (some ⟨g, 0, none⟩) K d3) (.int .i64 (l1 + l2)) r0 r1 r2
  have HF : Hid (RsPost w (n1 + n2) K (l1 + l2) (s1 ++ s2) (exL (bsM m1 m2) x z) (.returned (dval A3 (n1 + n2) c3 (some ⟨g, 0, none⟩) K d3 (l1 + l2))) (set3 w7 gr (.slice A3 (n1 + n2) c3) (.slice (some ⟨g, 0, none⟩) K d3) (.int .i64 (l1 + l2)))) := Lib.hid (by
    have hq := HQ.out
    have hg := HG.out
    obtain ⟨_, p1, p2, p3⟩ := HPQ.out
    refine ⟨A3, c3, some ⟨g, 0, none⟩, d3, rfl, (p1.set3 (fun e => ?_) _ _ _).mono hq.2.2.1, (p2.set3 (fun e => ?_) _ _ _).mono hq.2.2.1, set3_below p3 hg.1 _ _ _⟩
    · have := hq.1 _ e; omega
    · have := hq.2.1 _ e; omega)
  clear hg7 far7 hr c5 c6 f3 f4 eB
  go_wp2
  exact bodyPost_ret (v := dval A3 (n1 + n2) c3 (some ⟨g, 0, none⟩) K d3 (l1 + l2)) (by simp [results, Try.results36, go_sem, u0, u1, u2]) rfl (by rw [HZK.out.1, HZK.out.2]; exact HF.out)

end Go.Proofs.Ytkfjledhnakfoaa
