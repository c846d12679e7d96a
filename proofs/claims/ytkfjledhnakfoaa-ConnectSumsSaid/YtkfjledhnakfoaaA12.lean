import Derived.Test.YtkfjledhnakfoaaA11
import Derived.Test.YtkfjledhnakfoaaA09
import Derived.Deep.CutRange
/- Walks: Valid and the reference's Valid, of diagrams of any size. -/
namespace Go.Proofs.Ytkfjledhnakfoaa
open Go.RowKit

set_option maxHeartbeats 800000 in
theorem limits_all (A B : Option Addr) (ns cs nm cm : Nat) (lp : Int) (w : World) :
    Calls Try.prog 62 #[dval A ns cs B nm cm lp] w fun e w' => e = .returned (.bool (limB ns nm lp)) ∧ Below w.heap.size w w' := by
  by_cases h1 : ns ≤ 64
  · by_cases h2 : nm = 4 * ns
    · subst h2
      by_cases h3 : 0 ≤ lp
      · by_cases h4 : lp ≤ 64
        · have e : limB ns (4 * ns) lp = true := by simp [limB, *]
          rw [e]; clear e
          go_enter Try.func62, Try.ntmps62
          go_wp2
          go_ret
          exact ⟨rfl, below_alloc _ _⟩
        · have e : limB ns (4 * ns) lp = false := by simp [limB, *]
          rw [e]; clear e
          have h4' : 64 < lp := by omega
          go_enter Try.func62, Try.ntmps62
          go_wp2
          go_ret
          exact ⟨rfl, below_alloc _ _⟩
      · have e : limB ns (4 * ns) lp = false := by simp [limB, *]
        rw [e]; clear e
        have h4' : lp < 0 := by omega
        go_enter Try.func62, Try.ntmps62
        go_wp2
        go_ret
        exact ⟨rfl, below_alloc _ _⟩
    · have e : limB ns nm lp = false := by simp [limB, *]
      rw [e]; clear e
      have h4 : ((nm : Int) == 4 * (ns : Int)) = false := by simp; omega
      go_enter Try.func62, Try.ntmps62
      go_wp2
      go_ret
      exact ⟨rfl, below_alloc _ _⟩
  · have e : limB ns nm lp = false := by simp [limB, *]
    rw [e]; clear e
    have h4' : 64 < ns := by omega
    go_enter Try.func62, Try.ntmps62
    go_wp2
    go_ret
    exact ⟨rfl, below_alloc _ _⟩

set_option maxHeartbeats 1600000 in
set_option maxRecDepth 100000 in
theorem rvalid_limA (A B : Option Addr) (ns cs nm cm : Nat) (lp : Int) (w : World) (hl : limB ns nm lp = false) :
    Calls Try.prog 15 #[dval A ns cs B nm cm lp] w fun e w' => e = .returned (.bool false) ∧ Below w.heap.size w w' := by
  by_cases h1 : ns ≤ 64
  · by_cases h2 : nm = 4 * ns
    · subst h2
      by_cases h3 : 0 ≤ lp
      · have h4' : 64 < lp := by
          by_cases h4 : lp ≤ 64
          · simp [limB, *] at hl
          · omega
        clear hl
        go_enter Try.func15, Try.ntmps15
        go_wp2
        go_ret
        exact ⟨rfl, below_alloc _ _⟩
      · have h4' : lp < 0 := by omega
        clear hl h3
        go_enter Try.func15, Try.ntmps15
        go_wp2
        go_ret
        exact ⟨rfl, below_alloc _ _⟩
    · have h4 : ((nm : Int) != 4 * (ns : Int)) = true := by simp only [bne_iff_ne, ne_eq]; omega
      clear hl h2
      go_enter Try.func15, Try.ntmps15
      go_wp2
      go_ret
      exact ⟨rfl, below_alloc _ _⟩
  · have h4' : 64 < ns := by omega
    clear hl h1
    go_enter Try.func15, Try.ntmps15
    go_wp2
    go_ret
    exact ⟨rfl, below_alloc _ _⟩

set_option maxHeartbeats 1600000 in
theorem valid_limA (A B : Option Addr) (ns cs nm cm : Nat) (lp : Int) (w : World) (hl : limB ns nm lp = false) :
    Calls Try.prog 18 #[dval A ns cs B nm cm lp] w fun e w' => e = .returned (.bool false) ∧ Below w.heap.size w w' := by
  obtain ⟨d0, d1, d2, dlt⟩ := DB.new w A ns cs B nm cm lp
  have hb0 := below_alloc w (dbox A ns cs B nm cm lp)
  have HC1 := Lib.hid (limits_all A B ns cs nm cm lp (w.alloc (dbox A ns cs B nm cm lp)))
  rw [hl] at HC1
  clear hl
  go_enter Try.func18, Try.ntmps18
  go_wp2_with (go_at_call 62; ((with_reducible refine HC1.out.mono ?_); rintro e w1 ⟨rfl, hb1⟩))
  go_ret
  exact ⟨rfl, below_step hb0 hb1⟩
theorem mt_in {m : List Int} (h : ∀ z ∈ m, inI z) (j : Nat) : -9223372036854775808 ≤ mt m j ∧ mt m j ≤ 9223372036854775807 := by
  unfold mt
  rcases Nat.lt_or_ge j m.length with hj | hj
  · have e : m.getD j 0 = m[j] := by simp [List.getD, hj]
    rw [e]; exact h _ (List.getElem_mem hj)
  · have e : m.getD j 0 = 0 := by simp [List.getD, hj]
    rw [e]; omega
theorem lim_small {ns nm : Nat} {lp : Int} (h : limB ns nm lp = true) : ns ≤ 64 ∧ nm ≤ 256 := by have := limB_out h; omega
/-- A diagram within the limits is a small one. -/
theorem DV.lim {w : World} {A B : Option Addr} {ns nm : Nat} {s m : List Int} {lp : Int} (hs : RI w A ns s) (hm : RI w B nm m) (hmI : ∀ z ∈ m, inI z) (hl : limB ns nm lp = true) : DV w A ns B nm s m :=
  ⟨hs, hm, by have := lim_small hl; omega, by have := lim_small hl; omega, fun j _ => mt_in hmI j⟩
theorem validB_limA {s m : List Int} {lp : Int} {ns nm : Nat} (hs : s.length = ns) (hm : m.length = nm) (hl : limB ns nm lp = false) : validB s m lp = false := by
  unfold validB; rw [hs, hm, hl]; rfl
theorem DV.valid' {w : World} {A B : Option Addr} {ns nm : Nat} {s m : List Int} {lp : Int} (hs : RI w A ns s) (hm : RI w B nm m) (hmI : ∀ z ∈ m, inI z) (hv : validB s m lp = true) : DV w A ns B nm s m := by
  cases hl : limB ns nm lp with
  | true => exact DV.lim hs hm hmI hl
  | false => rw [validB_limA hs.1 hm.1 hl] at hv; cases hv
theorem valid_all {A B : Option Addr} {ns nm : Nat} (cs cm : Nat) {lp : Int} {s m : List Int} {w : World} (hs : RI w A ns s) (hm : RI w B nm m) (hmI : ∀ z ∈ m, inI z) (r : Bool) (hr : validB s m lp = r) :
    Calls Try.prog 18 #[dval A ns cs B nm cm lp] w fun e w' => e = .returned (.bool r) ∧ Below w.heap.size w w' := by
  cases hl : limB ns nm lp with
  | true => exact (DV.lim hs hm hmI hl).valid cs cm lp r hr
  | false =>
    rw [validB_limA hs.1 hm.1 hl] at hr
    subst hr
    exact valid_limA A B ns cs nm cm lp w hl
theorem rvalid_all {A B : Option Addr} {ns nm : Nat} (cs cm : Nat) {lp : Int} {s m : List Int} {w : World} (hs : RI w A ns s) (hm : RI w B nm m) (hmI : ∀ z ∈ m, inI z) (r : Bool) (hr : validB s m lp = r) :
    Calls Try.prog 15 #[dval A ns cs B nm cm lp] w fun e w' => e = .returned (.bool r) ∧ Below w.heap.size w w' := by
  cases hl : limB ns nm lp with
  | true => exact (DV.lim hs hm hmI hl).rvalid cs cm lp r hr
  | false =>
    rw [validB_limA hs.1 hm.1 hl] at hr
    subst hr
    exact rvalid_limA A B ns cs nm cm lp w hl

end Go.Proofs.Ytkfjledhnakfoaa

/- Walk: Union. -/
namespace Go.Proofs.Ytkfjledhnakfoaa
open Go.RowKit

/-- What a valid diagram's lists are. -/
theorem cn_data {s m : List Int} {lp : Int} {ns nm : Nat} (hv : validB s m lp = true) (hs : s.length = ns) (hm : m.length = nm) : nm = 4 * ns ∧ ns ≤ 64 ∧ (∀ h, h < nm → m.getD h 0 = (matesOf m h : Nat) ∧ matesOf m h < nm) ∧ 0 ≤ lp ∧ lp ≤ 64 := by
  obtain ⟨v1, v2, v3, _⟩ := validB_out hv
  obtain ⟨l1, l2, l3, l4⟩ := limB_out v1
  exact ⟨by omega, by omega, matesOf_mates v3 hm, l3, l4⟩
/-- A call that refuses. -/
def CnNo (w : World) (c : Int) (e : Ending) (w' : World) : Prop := e = .returned (.tuple #[dval none 0 0 none 0 0 0, .int .i64 c]) ∧ Below w.heap.size w w'
def UnPost (w : World) (n k : Nat) (l : Int) (s m : List Int) (e : Ending) (w' : World) : Prop :=
  if n ≤ 64 ∧ l ≤ 64 then ∃ A cs B cm, e = .returned (.tuple #[dval A n cs B k cm l, .int .i64 0]) ∧ OI w' w.heap.size (.slice A n cs) s ∧ OI w' w.heap.size (.slice B k cm) m ∧ Below w.heap.size w w'
  else CnNo w 5 e w'

set_option maxHeartbeats 6400000 in
set_option maxRecDepth 100000 in
theorem union_yes (A1 B1 A2 B2 : Option Addr) (n1 c1 k1 d1 n2 c2 k2 d2 : Nat) (l1 l2 : Int) (s1 m1 s2 m2 : List Int) (w : World) (h1 : DV w A1 n1 B1 k1 s1 m1) (h2 : DV w A2 n2 B2 k2 s2 m2) (hv1 : validB s1 m1 l1 = true) (hv2 : validB s2 m2 l2 = true) :
    Calls Try.prog 14 #[dval A1 n1 c1 B1 k1 d1 l1, dval A2 n2 c2 B2 k2 d2 l2] w (UnPost w (n1 + n2) (k1 + k2) (l1 + l2) (s1 ++ s2) (bsM m1 m2)) := by
  obtain ⟨ek1, en1, hM1, lo1, hi1⟩ := cn_data hv1 h1.hs.1 h1.hm.1
  obtain ⟨ek2, en2, hM2, lo2, hi2⟩ := cn_data hv2 h2.hs.1 h2.hm.1
  have hb1 := below_alloc w (dbox A1 n1 c1 B1 k1 d1 l1)
  have hb2 := below_alloc (w.alloc (dbox A1 n1 c1 B1 k1 d1 l1)) (dbox A2 n2 c2 B2 k2 d2 l2)
  have hb3 := below_alloc ((w.alloc (dbox A1 n1 c1 B1 k1 d1 l1)).alloc (dbox A2 n2 c2 B2 k2 d2 l2)) (.cells #[.slice none 0 0, .slice none 0 0, .int .i64 0] 24)
  have hd1 := ((DB.new w A1 n1 c1 B1 k1 d1 l1).keep hb2).keep hb3
  have hd2 := (DB.new (w.alloc (dbox A1 n1 c1 B1 k1 d1 l1)) A2 n2 c2 B2 k2 d2 l2).keep hb3
  have hbx := bxz_new ((w.alloc (dbox A1 n1 c1 B1 k1 d1 l1)).alloc (dbox A2 n2 c2 B2 k2 d2 l2))
  have hb := below_step (below_step hb1 hb2) hb3
  have hsz : (w.alloc (dbox A1 n1 c1 B1 k1 d1 l1)).heap.size = w.heap.size + 1 := by simp
  have hsz2 : ((w.alloc (dbox A1 n1 c1 B1 k1 d1 l1)).alloc (dbox A2 n2 c2 B2 k2 d2 l2)).heap.size = w.heap.size + 2 := by simp
  rw [hsz] at hd2
  rw [hsz2] at hbx
  have H1 := Lib.hid h1
  have H2 := Lib.hid h2
  have HV1 := Lib.hid hv1
  have HV2 := Lib.hid hv2
  have CB : ∀ W, Below w.heap.size w W → Hid (Calls Try.prog 56 #[dval A1 n1 c1 B1 k1 d1 l1, dval A2 n2 c2 B2 k2 d2 l2] W (BsPost W (n1 + n2) (k1 + k2) (l1 + l2) (s1 ++ s2) (bsM m1 m2))) := fun W hW => Lib.hid
    (beside_any A1 B1 A2 B2 n1 c1 k1 d1 n2 c2 k2 d2 l1 l2 s1 m1 s2 m2 W (h1.hs.keep hW) (h1.hm.keep hW) (h2.hs.keep hW) (h2.hm.keep hW) en1 (by omega) en2 (by omega) ⟨lo1, hi1⟩ ⟨lo2, hi2⟩ fun j hj => by have := hM2 j hj; omega)
  clear hb1 hb2 hb3 hsz hsz2 h1 h2 hv1 hv2 hM1 hM2 ek1 ek2
  unfold dbox at hd1 hd2 hbx hb
  go_enter Try.func14, Try.ntmps14
  go_upto_region 1 with fail
  generalize ((w.alloc (.cells #[.slice A1 n1 c1, .slice B1 k1 d1, .int .i64 l1] 24)).alloc (.cells #[.slice A2 n2 c2, .slice B2 k2 d2, .int .i64 l2] 24)).alloc (.cells #[.slice none 0 0, .slice none 0 0, .int .i64 0] 24) = w0 at hd1 hd2 hbx hb ⊢
  rw [show w.heap.size + 1 + 1 = w.heap.size + 2 by omega]
  obtain ⟨ga, hga⟩ : ∃ ga, w.heap.size = ga := ⟨_, rfl⟩
  obtain ⟨gb, hgb⟩ : ∃ gb, w.heap.size + 1 = gb := ⟨_, rfl⟩
  obtain ⟨gr, hgr⟩ : ∃ gr, w.heap.size + 2 = gr := ⟨_, rfl⟩
  have HG : Hid (w.heap.size ≤ gr ∧ gr < w0.heap.size) := Lib.hid ⟨by omega, by rw [← hgr]; exact hbx.1.2.2.2⟩
  rw [hga] at hd1
  rw [hgb] at hd2 ⊢
  rw [hgr] at hbx ⊢
  rw [hga]
  have HB := Lib.hid hb
  have HBX := Lib.hid hbx
  obtain ⟨a0, a1, a2, alt⟩ := hd1
  obtain ⟨b0, b1, b2, blt⟩ := hd2
  have CV1 := Lib.hid ((H1.out.keep hb).valid c1 d1 l1 true HV1.out)
  have CV2 : ∀ W, Below w0.heap.size w0 W → Hid (Calls Try.prog 18 #[dval A2 n2 c2 B2 k2 d2 l2] W fun e w' => e = .returned (.bool true) ∧ Below W.heap.size W w') := fun W hW => Lib.hid ((H2.out.keep (below_step HB.out hW)).valid c2 d2 l2 true HV2.out)
  have CL : ∀ A cs B cm W, Hid (Calls Try.prog 55 #[dval A (n1 + n2) cs B (k1 + k2) cm (l1 + l2)] W (LmPost W A (n1 + n2) cs B (k1 + k2) cm (l1 + l2))) := fun A cs B cm W => Lib.hid (limited_any A B (n1 + n2) cs (k1 + k2) cm (l1 + l2) W (by omega))
  clear hga hgb hgr hb hbx
  go_upto_region 3 with (first
    | (go_at_call 18; ((with_reducible refine (CV2 _ hb1).out.mono ?_); rintro e w2 ⟨rfl, hb2'⟩; have hb2 := below_step hb1 hb2'))
    | (go_at_call 18; ((with_reducible refine CV1.out.mono ?_); rintro e w1 ⟨rfl, hb1⟩; have y0 := (hb1.cell (p := ⟨gb, 0, none⟩) blt).trans b0; have y1 := (hb1.cell (p := ⟨gb, 1, none⟩) blt).trans b1; have y2 := (hb1.cell (p := ⟨gb, 2, none⟩) blt).trans b2)))
  have x0 := (hb2.cell (p := ⟨ga, 0, none⟩) alt).trans a0
  have x1 := (hb2.cell (p := ⟨ga, 1, none⟩) alt).trans a1
  have x2 := (hb2.cell (p := ⟨ga, 2, none⟩) alt).trans a2
  have z0 := (hb2.cell (p := ⟨gb, 0, none⟩) blt).trans b0
  have z1 := (hb2.cell (p := ⟨gb, 1, none⟩) blt).trans b1
  have z2 := (hb2.cell (p := ⟨gb, 2, none⟩) blt).trans b2
  have hbw2 := below_step HB.out hb2
  have HB2 := Lib.hid hb2
  have CB2 := CB w2 hbw2
  clear a0 a1 a2 b0 b1 b2 y0 y1 y2 hbw2
  by_cases hlim : n1 + n2 ≤ 64 ∧ l1 + l2 ≤ 64
  · have CL' : ∀ A cs B cm W, Hid (Calls Try.prog 55 #[dval A (n1 + n2) cs B (k1 + k2) cm (l1 + l2)] W fun e w' => e = .returned (.tuple #[dval A (n1 + n2) cs B (k1 + k2) cm (l1 + l2), .int .i64 0]) ∧ Below W.heap.size W w') := fun A cs B cm W => Lib.hid ((CL A cs B cm W).out.mono fun e w' h => by unfold LmPost at h; rw [if_pos hlim] at h; exact h)
    have HLIM := Lib.hid hlim
    clear CL hlim
    go_wp2_with (first
      | (go_at_call 56; ((with_reducible refine CB2.out.mono ?_); rintro e w3 ⟨A3, c3, B3, d3, rfl, oS, oM, hne, hb3⟩))
      | (go_at_call 55; ((with_reducible refine (CL' _ _ _ _ _).out.mono ?_); rintro e w4 ⟨rfl, hb4⟩; have hr := HBX.out.kp (below_step HB2.out (below_step hb3 hb4)); have r0 := hr.1.1; have r1 := hr.1.2.1; have r2 := hr.1.2.2.1; have f0 := hr.2 0; have f1 := hr.2 1; have f2 := hr.2 2)))
    obtain ⟨q0, q1, q2⟩ := set3_cells w4 gr (.slice A3 (n1 + n2) c3) (.slice B3 (k1 + k2) d3) (.int .i64 (l1 + l2)) r0 r1 r2
    have HF : Hid (UnPost w (n1 + n2) (k1 + k2) (l1 + l2) (s1 ++ s2) (bsM m1 m2) (.returned (.tuple #[dval A3 (n1 + n2) c3 B3 (k1 + k2) d3 (l1 + l2), .int .i64 0])) (set3 w4 gr (.slice A3 (n1 + n2) c3) (.slice B3 (k1 + k2) d3) (.int .i64 (l1 + l2)))) := Lib.hid (by
      have hg := HG.out
      have hz := HB2.out.size
      have hz0 := HB.out.size
      unfold UnPost
      rw [if_pos HLIM.out]
      refine ⟨A3, c3, B3, d3, rfl, ((oS.keep hb4).set3 (fun e => ?_) _ _ _).mono (by omega), ((oM.keep hb4).set3 (fun e => ?_) _ _ _).mono (by omega), set3_below (below_step HB.out (below_step HB2.out (below_step hb3 hb4))) hg.1 _ _ _⟩
      · have := World.ownsRow.lt oS _ e; omega
      · have := World.ownsRow.lt oM _ e; omega)
    exact bodyPost_ret (v := .tuple #[dval A3 (n1 + n2) c3 B3 (k1 + k2) d3 (l1 + l2), .int .i64 0]) (by simp [results, Try.results14, go_sem, q0, q1, q2]) rfl HF.out
  · have CL' : ∀ A cs B cm W, Hid (Calls Try.prog 55 #[dval A (n1 + n2) cs B (k1 + k2) cm (l1 + l2)] W fun e w' => e = .returned (.tuple #[dval none 0 0 none 0 0 0, .int .i64 5]) ∧ Below W.heap.size W w') := fun A cs B cm W => Lib.hid ((CL A cs B cm W).out.mono fun e w' h => by unfold LmPost at h; rw [if_neg hlim] at h; exact h)
    have HLIM := Lib.hid hlim
    clear CL hlim
    go_wp2_with (first
      | (go_at_call 56; ((with_reducible refine CB2.out.mono ?_); rintro e w3 ⟨A3, c3, B3, d3, rfl, oS, oM, hne, hb3⟩))
      | (go_at_call 55; ((with_reducible refine (CL' _ _ _ _ _).out.mono ?_); rintro e w4 ⟨rfl, hb4⟩; have hr := HBX.out.kp (below_step HB2.out (below_step hb3 hb4)); have r0 := hr.1.1; have r1 := hr.1.2.1; have r2 := hr.1.2.2.1; have f0 := hr.2 0; have f1 := hr.2 1; have f2 := hr.2 2)))
    obtain ⟨q0, q1, q2⟩ := set3_cells w4 gr (.slice none 0 0) (.slice none 0 0) (.int .i64 0) r0 r1 r2
    have HF : Hid (UnPost w (n1 + n2) (k1 + k2) (l1 + l2) (s1 ++ s2) (bsM m1 m2) (.returned (.tuple #[dval none 0 0 none 0 0 0, .int .i64 5])) (set3 w4 gr (.slice none 0 0) (.slice none 0 0) (.int .i64 0))) := Lib.hid (by
      unfold UnPost
      rw [if_neg HLIM.out]
      exact ⟨rfl, set3_below (below_step HB.out (below_step HB2.out (below_step hb3 hb4))) HG.out.1 _ _ _⟩)
    exact bodyPost_ret (v := .tuple #[dval none 0 0 none 0 0 0, .int .i64 5]) (by simp [results, Try.results14, go_sem, q0, q1, q2]) rfl HF.out

set_option maxHeartbeats 3200000 in
set_option maxRecDepth 100000 in
theorem union_no (A1 B1 A2 B2 : Option Addr) (n1 c1 k1 d1 n2 c2 k2 d2 : Nat) (l1 l2 : Int) (s1 m1 s2 m2 : List Int) (w : World) (h1 : DV w A1 n1 B1 k1 s1 m1) (h2 : DV w A2 n2 B2 k2 s2 m2) (hv : (validB s1 m1 l1 && validB s2 m2 l2) = false) :
    Calls Try.prog 14 #[dval A1 n1 c1 B1 k1 d1 l1, dval A2 n2 c2 B2 k2 d2 l2] w (CnNo w 1) := by
  have hb1 := below_alloc w (dbox A1 n1 c1 B1 k1 d1 l1)
  have hb2 := below_alloc (w.alloc (dbox A1 n1 c1 B1 k1 d1 l1)) (dbox A2 n2 c2 B2 k2 d2 l2)
  have hb3 := below_alloc ((w.alloc (dbox A1 n1 c1 B1 k1 d1 l1)).alloc (dbox A2 n2 c2 B2 k2 d2 l2)) (.cells #[.slice none 0 0, .slice none 0 0, .int .i64 0] 24)
  have hd1 := ((DB.new w A1 n1 c1 B1 k1 d1 l1).keep hb2).keep hb3
  have hd2 := (DB.new (w.alloc (dbox A1 n1 c1 B1 k1 d1 l1)) A2 n2 c2 B2 k2 d2 l2).keep hb3
  have hbx := bxz_new ((w.alloc (dbox A1 n1 c1 B1 k1 d1 l1)).alloc (dbox A2 n2 c2 B2 k2 d2 l2))
  have hb := below_step (below_step hb1 hb2) hb3
  have hsz : (w.alloc (dbox A1 n1 c1 B1 k1 d1 l1)).heap.size = w.heap.size + 1 := by simp
  have hsz2 : ((w.alloc (dbox A1 n1 c1 B1 k1 d1 l1)).alloc (dbox A2 n2 c2 B2 k2 d2 l2)).heap.size = w.heap.size + 2 := by simp
  rw [hsz] at hd2
  rw [hsz2] at hbx
  have H1 := Lib.hid h1
  have H2 := Lib.hid h2
  clear hb1 hb2 hb3 hsz hsz2 h1 h2
  unfold dbox at hd1 hd2 hbx hb
  go_enter Try.func14, Try.ntmps14
  go_upto_region 1 with fail
  generalize ((w.alloc (.cells #[.slice A1 n1 c1, .slice B1 k1 d1, .int .i64 l1] 24)).alloc (.cells #[.slice A2 n2 c2, .slice B2 k2 d2, .int .i64 l2] 24)).alloc (.cells #[.slice none 0 0, .slice none 0 0, .int .i64 0] 24) = w0 at hd1 hd2 hbx hb ⊢
  rw [show w.heap.size + 1 + 1 = w.heap.size + 2 by omega]
  obtain ⟨ga, hga⟩ : ∃ ga, w.heap.size = ga := ⟨_, rfl⟩
  obtain ⟨gb, hgb⟩ : ∃ gb, w.heap.size + 1 = gb := ⟨_, rfl⟩
  obtain ⟨gr, hgr⟩ : ∃ gr, w.heap.size + 2 = gr := ⟨_, rfl⟩
  have HG : Hid (w.heap.size ≤ gr ∧ gr < w0.heap.size) := Lib.hid ⟨by omega, by rw [← hgr]; exact hbx.1.2.2.2⟩
  rw [hga] at hd1
  rw [hgb] at hd2 ⊢
  rw [hgr] at hbx ⊢
  rw [hga]
  have HB := Lib.hid hb
  have HBX := Lib.hid hbx
  obtain ⟨a0, a1, a2, alt⟩ := hd1
  obtain ⟨b0, b1, b2, blt⟩ := hd2
  have HF : ∀ W, Below w0.heap.size w0 W → Hid (W.cell? ⟨gr, 0, none⟩ = some (.slice none 0 0) ∧ W.cell? ⟨gr, 1, none⟩ = some (.slice none 0 0) ∧ W.cell? ⟨gr, 2, none⟩ = some (.int .i64 0) ∧ W.frozen? ⟨gr, 0, none⟩ = false ∧ W.frozen? ⟨gr, 1, none⟩ = false ∧ W.frozen? ⟨gr, 2, none⟩ = false) := fun W hW => by
    have h := HBX.out.kp hW
    exact Lib.hid ⟨h.1.1, h.1.2.1, h.1.2.2.1, h.2 0, h.2 1, h.2 2⟩
  have fin : ∀ W, Below w0.heap.size w0 W → Hid (CnNo w 1 (.returned (.tuple #[dval none 0 0 none 0 0 0, .int .i64 1])) (set3 W gr (.slice none 0 0) (.slice none 0 0) (.int .i64 0))) := fun W hW => Lib.hid ⟨rfl, set3_below (below_step HB.out hW) HG.out.1 _ _ _⟩
  cases hv1 : validB s1 m1 l1 with
  | false =>
    have CV1 := Lib.hid ((H1.out.keep hb).valid c1 d1 l1 false hv1)
    clear hga hgb hgr hb hbx hv hv1
    go_wp2_with ((go_at_call 18; ((with_reducible refine CV1.out.mono ?_); rintro e w1 ⟨rfl, hb1⟩; obtain ⟨r0, r1, r2, f0, f1, f2⟩ := (HF w1 hb1).out)))
    obtain ⟨q0, q1, q2⟩ := set3_cells w1 gr (.slice none 0 0) (.slice none 0 0) (.int .i64 0) r0 r1 r2
    exact bodyPost_ret (v := .tuple #[dval none 0 0 none 0 0 0, .int .i64 1]) (by simp [results, Try.results14, go_sem, q0, q1, q2]) rfl (fin w1 hb1).out
  | true =>
    have hv2 : validB s2 m2 l2 = false := by rw [hv1] at hv; exact hv
    have CV1 := Lib.hid ((H1.out.keep hb).valid c1 d1 l1 true hv1)
    have CV2 : ∀ W, Below w0.heap.size w0 W → Hid (Calls Try.prog 18 #[dval A2 n2 c2 B2 k2 d2 l2] W fun e w' => e = .returned (.bool false) ∧ Below W.heap.size W w') := fun W hW => Lib.hid ((H2.out.keep (below_step HB.out hW)).valid c2 d2 l2 false hv2)
    clear hga hgb hgr hb hbx hv hv1 hv2
    go_wp2_with (first
      | (go_at_call 18; ((with_reducible refine (CV2 _ hb1).out.mono ?_); rintro e w2 ⟨rfl, hb2'⟩; have hb2 := below_step hb1 hb2'; obtain ⟨r0, r1, r2, f0, f1, f2⟩ := (HF w2 hb2).out))
      | (go_at_call 18; ((with_reducible refine CV1.out.mono ?_); rintro e w1 ⟨rfl, hb1⟩; have y0 := (hb1.cell (p := ⟨gb, 0, none⟩) blt).trans b0; have y1 := (hb1.cell (p := ⟨gb, 1, none⟩) blt).trans b1; have y2 := (hb1.cell (p := ⟨gb, 2, none⟩) blt).trans b2)))
    obtain ⟨q0, q1, q2⟩ := set3_cells w2 gr (.slice none 0 0) (.slice none 0 0) (.int .i64 0) r0 r1 r2
    exact bodyPost_ret (v := .tuple #[dval none 0 0 none 0 0 0, .int .i64 1]) (by simp [results, Try.results14, go_sem, q0, q1, q2]) rfl (fin w2 hb2).out

end Go.Proofs.Ytkfjledhnakfoaa

/- Walk: part. -/
namespace Go.Proofs.Ytkfjledhnakfoaa
open Go.RowKit

set_option maxHeartbeats 12800000 in
set_option maxRecDepth 100000 in
theorem part_any (A B C : Option Addr) (ns cs nm cm k cc : Nat) (lp : Int) (s m xs : List Int) (phi : Nat → Nat) (w : World) (h : DV w A ns B nm s m) (hv : validB s m lp = true) (hcap : nm ≤ cm ∧ cm ≤ 9223372036854775807)
    (hC : RI w C k xs) (hk : k ≤ 64) (hphi : ∀ i, i < k → xs.getD i 0 = (phi i : Nat) ∧ phi i < ns) :
    Calls Try.prog 117 #[dval A ns cs B nm cm lp, .slice C k cc] w (PtPost w k (ptS s phi k) (ptM phi k (matesOf m) (4 * k))) := by
  obtain ⟨hnm, hns, hM, _, _⟩ := cn_data hv h.hs.1 h.hm.1
  have hb1 := below_alloc w (dbox A ns cs B nm cm lp)
  have hb2 := below_alloc (w.alloc (dbox A ns cs B nm cm lp)) (.cells #[.slice none 0 0, .slice none 0 0, .int .i64 0] 24)
  have hd := (DB.new w A ns cs B nm cm lp).keep hb2
  have hbx := bxz_new (w.alloc (dbox A ns cs B nm cm lp))
  have hb := below_step hb1 hb2
  have hsz : (w.alloc (dbox A ns cs B nm cm lp)).heap.size = w.heap.size + 1 := by simp
  have hsz2 : ((w.alloc (dbox A ns cs B nm cm lp)).alloc (.cells #[.slice none 0 0, .slice none 0 0, .int .i64 0] 24)).heap.size = w.heap.size + 2 := by simp
  rw [hsz] at hbx
  have HH := Lib.hid h
  have HMV := Lib.hid hM
  have HNM := Lib.hid hnm
  have HC := Lib.hid hC
  have HP := Lib.hid hphi
  have hki : (k : Int) ≤ 64 := by omega
  have hnsi : (ns : Int) ≤ 64 := by omega
  have hnmi : (nm : Int) ≤ 256 := by omega
  have hc0 : (nm : Int) ≤ (cm : Int) := by omega
  have hc1 : (cm : Int) ≤ 9223372036854775807 := by omega
  clear hb1 hb2 h hv hM hnm hC hphi hsz
  unfold dbox at hd hbx hb hsz2
  go_enter Try.func117, Try.ntmps117
  go_upto_region 1 with fail
  generalize (w.alloc (.cells #[.slice A ns cs, .slice B nm cm, .int .i64 lp] 24)).alloc (.cells #[.slice none 0 0, .slice none 0 0, .int .i64 0] 24) = wa at hd hbx hb hsz2 ⊢
  obtain ⟨gd, hgd⟩ : ∃ gd, w.heap.size = gd := ⟨_, rfl⟩
  obtain ⟨gr, hgr⟩ : ∃ gr, w.heap.size + 1 = gr := ⟨_, rfl⟩
  have HG : Hid (gd = w.heap.size ∧ gr = gd + 1 ∧ wa.heap.size = gd + 2) := Lib.hid ⟨hgd.symm, by omega, by omega⟩
  rw [hgr] at hbx ⊢
  rw [hgd] at hd ⊢
  have HB := Lib.hid hb
  have HBX := Lib.hid hbx
  have HD := Lib.hid hd
  clear hgd hgr hb hbx hd hsz2
  go_upto_region 2 with fail
  rw [zeros64]
  have hA0 := Arr.new wa 64 74 (iv fun _ => 0)
  have hbn := below_alloc wa (.cells (cellsN 64 (iv fun _ => 0)) 74)
  generalize wa.alloc (.cells (cellsN 64 (iv fun _ => 0)) 74) = w0 at hA0 hbn ⊢
  obtain ⟨ga, hga⟩ : ∃ ga, wa.heap.size = ga := ⟨_, rfl⟩
  rw [hga] at hA0 ⊢
  have HGA : Hid (ga = wa.heap.size) := Lib.hid hga.symm
  have HA0 : Hid (Arr w0 ga 74 64 (iv (numT phi 0))) := Lib.hid (hA0.congr fun _ _ => rfl)
  have HBN := Lib.hid hbn
  have hga0 : ga < w0.heap.size := hA0.lt
  clear hA0 hbn hga
  go_wp2
  go_loopw [6, 7, 15] (fun _ _ i wr => ∃ j : Nat, j ≤ k ∧ i = .int .i64 j ∧ Below ga w0 wr ∧ Arr wr ga 74 64 (iv (numT phi j))) (fun _ _ i _ => k - (intOf i).toNat)
  case atStart => exact ⟨0, by omega, rfl, Below.refl _ _, HA0.out⟩
  case round =>
    obtain ⟨j, hj, rfl, hbr, hAr⟩ := hrel
    have hj0 : (0 : Int) ≤ (j : Int) := Int.natCast_nonneg _
    by_cases hjn : j < k
    · have hj1 : (j : Int) < (k : Int) := by omega
      have hbw : Below w.heap.size w wr := HB.out.trans ((HBN.out.trans (hbr.mono (by have := HGA.out; omega))).mono HB.out.size)
      obtain ⟨b0, off, rfl, hb0, hcx⟩ := HC.out.2 (by omega)
      have hcel := (hbw.cell (p := ⟨b0, off + j, none⟩) hb0).trans (hcx j hjn)
      obtain ⟨p1, p2⟩ := HP.out j hjn
      rw [p1] at hcel
      have hac := hAr.cell (phi j) (by omega)
      have haf := hAr.frozen (phi j)
      have HS := Lib.hid (hAr.seti (phi j) j)
      obtain ⟨c, hc⟩ : ∃ c, phi j = c := ⟨_, rfl⟩
      rw [hc] at hcel hac haf HS p2
      have HE : Hid (numT phi (j + 1) = upd (numT phi j) c j) := Lib.hid (by funext x; show (if x = phi j then j else numT phi j x) = _; rw [hc]; rfl)
      have c0 : (0 : Int) ≤ (c : Int) := Int.natCast_nonneg _
      have c1 : (c : Int) < 64 := by omega
      have HBR := Lib.hid hbr
      clear hbw hcx p1 hc hAr hbr
      go_wp2
      go_roundw
      case rel => exact ⟨j + 1, by omega, by go_num, below_set HBR.out (Nat.le_refl _) _, by rw [HE.out]; exact HS.out⟩
      case measure => simp [intOf]; omega
    · obtain rfl : k = j := by omega
      have HBR := Lib.hid hbr
      have HAR := Lib.hid hAr
      obtain ⟨w2, hw2⟩ : ∃ w2 : World, w2 = wr := ⟨_, rfl⟩
      subst hw2
      clear hbr hAr hjn hj
      go_upto_region 8 with fail
      have hbp := below_alloc w2 (.cells #[.slice none 0 0, .slice none 0 0, .int .i64 0] 24)
      have hbxp := bxz_new w2
      have hszp : (w2.alloc (.cells #[.slice none 0 0, .slice none 0 0, .int .i64 0] 24)).heap.size = w2.heap.size + 1 := by simp
      obtain ⟨gp, hgp⟩ : ∃ gp, w2.heap.size = gp := ⟨_, rfl⟩
      rw [hgp] at hbxp ⊢
      have HI0 : Hid (PtI w2 (w2.alloc (.cells #[.slice none 0 0, .slice none 0 0, .int .i64 0] 24)) gp (gp + 1) (.slice none 0 0) (.slice none 0 0) (ptS s phi 0) (ptM phi k (matesOf m) (4 * 0))) := Lib.hid
        ⟨by rw [← hgp]; exact hbp, by omega, hbxp.1.1, hbxp.1.2.1, hbxp.1.2.2.1, hbxp.2, OI.nil _ _, OI.nil _ _, .inl rfl, by omega⟩
      have HGP : Hid (gp = w2.heap.size ∧ ga < gp) := Lib.hid ⟨hgp.symm, by have := HBR.out.size; omega⟩
      generalize w2.alloc (.cells #[.slice none 0 0, .slice none 0 0, .int .i64 0] 24) = w3 at HI0 ⊢
      clear hbp hbxp hszp hgp
      have HW : Hid (∀ wr, Below gp w2 wr → Below w.heap.size w wr ∧ DB wr gd A ns cs B nm cm lp ∧ BxZ wr gr ∧ Arr wr ga 74 64 (iv (numT phi k))) := Lib.hid fun wr hbr => by
        have hg := HG.out
        have hga := HGA.out
        have hgp := HGP.out
        have h1 : Below ga wa wr := by rw [hga]; exact HBN.out.trans ((HBR.out.mono (by omega)).trans (hbr.mono (by omega)))
        refine ⟨HB.out.trans (h1.mono (by omega)), HD.out.below h1 (by omega), ⟨HBX.out.1.below h1 (by omega), fun i => (h1.frozen (p := ⟨gr, i, none⟩) (by show gr < ga; omega)).trans (HBX.out.2 i)⟩, HAR.out.below hbr hgp.2⟩
      go_wp2
      go_loopw [10, 12, 26] (fun _ _ i wr => ∃ (j : Nat) (v1 v2 : Value), j ≤ k ∧ i = .int .i64 j ∧ PtI w2 wr gp (gp + 1) v1 v2 (ptS s phi j) (ptM phi k (matesOf m) (4 * j))) (fun _ _ i _ => k - (intOf i).toNat)
      case atStart => exact ⟨0, _, _, by omega, rfl, HI0.out⟩
      case round =>
        obtain ⟨j, v1, v2, hj, rfl, hI⟩ := hrel
        have hj0 : (0 : Int) ≤ (j : Int) := Int.natCast_nonneg _
        obtain ⟨hbw, hdb, hbz, har⟩ := HW.out wr hI.below
        by_cases hjn : j < k
        · have hj1 : (j : Int) < (k : Int) := by omega
          obtain ⟨b0, off, rfl, hb0, hcx⟩ := HC.out.2 (by omega)
          have hcel := (hbw.cell (p := ⟨b0, off + j, none⟩) hb0).trans (hcx j hjn)
          obtain ⟨p1, p2⟩ := HP.out j hjn
          rw [p1] at hcel
          obtain ⟨b1, off1, rfl, hb1, hcs⟩ := HH.out.hs.2 (by omega)
          have hsel := (hbw.cell (p := ⟨b1, off1 + phi j, none⟩) hb1).trans (hcs _ p2)
          have hsu := ptS_succ s phi j
          have HCE : Hid (phi j < ns) := Lib.hid p2
          obtain ⟨c, hc⟩ : ∃ c, phi j = c := ⟨_, rfl⟩
          rw [hc] at hcel hsel p2 hsu HCE
          obtain ⟨x, hx⟩ : ∃ x, s.getD c 0 = x := ⟨_, rfl⟩
          rw [hx] at hsel hsu
          have HSU := Lib.hid hsu
          have HCC := Lib.hid hc
          have c0 : (0 : Int) ≤ (c : Int) := Int.natCast_nonneg _
          have c1 : (c : Int) < (ns : Int) := by omega
          obtain ⟨d0, d1, d2, dlt⟩ := hdb
          have q0 := hI.b0
          have qf := hI.bf 0
          have hpl : gp < wr.heap.size := Nat.lt_of_lt_of_le hI.hgp hI.base
          have hwl := below_alloc wr (.cells #[.int .i64 x] 3)
          have q0a := (hwl.cell (p := ⟨gp, 0, none⟩) hpl).trans q0
          have d0a := (hwl.cell (p := ⟨gd, 0, none⟩) dlt).trans d0
          have hsela := (hwl.cell (p := ⟨b1, off1 + c, none⟩) (Nat.lt_of_lt_of_le hb1 hbw.size)).trans hsel
          have HI := Lib.hid hI
          have hlx : (ptS s phi j).length = j := ptS_len _ _ _
          have hbs := hI.base
          obtain ⟨sx, hsx⟩ : ∃ sx, ptS s phi j = sx := ⟨_, rfl⟩
          rw [hsx] at HI HSU hlx
          clear hI hbw hbz har hcx hcs p1 hsu hc hx hsx d2
          go_upto_region 11 with fail
          go_cut [10] from 30 to 39 (fun vc wX => vc = .int .i64 (c : Int) ∧ ∃ A5 c5, PtI w2 wX gp (gp + 1) (.slice A5 (j + 1) c5) v2 (sx ++ [x]) (ptM phi k (matesOf m) (4 * j)))
          case first =>
            go_region_law (refine step_append_int_at rfl (.tmp 31) (.tmp 37) rfl (gp + 1) v1 sx rfl (by exact (HI.out.s.keep (below_alloc wr (.cells #[.int .i64 x] 3)).drew)) wr.heap.size x rfl (by show (wr.alloc (.cells #[.int .i64 x] 3)).cell? ⟨wr.heap.size, 0, none⟩ = some (.int .i64 x); rw [World.cell?_alloc_at _ _ _ _ rfl]; rfl) (by omega) (by show gp + 1 ≤ (wr.alloc (.cells #[.int .i64 x] 3)).heap.size; simp; omega) ?_; intro A5 c5 w5 ho5 hg5 hv5; have hb5 : Below wr.heap.size wr (wr.alloc (.cells #[.int .i64 x] 3)).drew := (below_alloc wr _).drew; obtain ⟨mc, mf, mb⟩ := HI.out.mid hb5 HI.out.s hg5; have mc0 := mc 0 _ q0; have mf0 := mf 0; have HST := Lib.hid (HI.out.stepS hb5 hg5 ho5 hv5))
            all_goals go_wp2_with fail
            all_goals go_meet
            all_goals exact ⟨rfl, A5, c5, by have h := HST.out; rw [hlx] at h; first | exact h | exact h.drew⟩
          case rest =>
            obtain ⟨rfl, A5, c5, hI5⟩ := hcut
            rw [← HSU.out] at hI5
            obtain ⟨hbw5, hdb5, hbz5, har5⟩ := HW.out wc hI5.below
            obtain ⟨b2, off2, rfl, hb2, hcm⟩ := HH.out.hm.2 (by have := HCE.out; have := HNM.out; omega)
            obtain ⟨e0, e1, e2, elt⟩ := hdb5
            obtain ⟨c4, hc4⟩ : ∃ c4, 4 * c = c4 := ⟨_, rfl⟩
            obtain ⟨c8, hc8⟩ : ∃ c8, c4 + 4 = c8 := ⟨_, rfl⟩
            have hn8 : c8 ≤ nm := by have := HCE.out; have := HNM.out; omega
            have i4 : 4 * (c : Int) = (c4 : Int) := by omega
            have i8 : (c4 : Int) + 4 = (c8 : Int) := by omega
            have j0 : (0 : Int) ≤ (c4 : Int) := Int.natCast_nonneg _
            have j1 : (c4 : Int) ≤ (c8 : Int) := by omega
            have j2 : (c8 : Int) ≤ (cm : Int) := by omega
            have j3 : (c8 : Int) - (c4 : Int) = 4 := by omega
            have j4 : c8 - c4 = 4 := by omega
            have j5 : ¬ (c4 = cm) := by omega
            have j6 : ¬ (cm = c4) := by omega
            have w4 : IntKind.i64.wrap ((c4 : Nat) : Int) = (c4 : Int) := IntWalk.i64_in _ (by omega)
            have w8 : IntKind.i64.wrap ((c8 : Nat) : Int) = (c8 : Int) := IntWalk.i64_in _ (by omega)
            have HC4 : Hid (c4 = 4 * c ∧ c8 = c4 + 4 ∧ c8 ≤ nm) := Lib.hid ⟨hc4.symm, hc8.symm, hn8⟩
            have HI5 := Lib.hid hI5
            clear hbw5 hbz5 har5 hI5 hc4 hc8 hn8 q0 qf q0a d0a hsela hsel d0 d1 hwl e0 e2
            go_upto_region 13 with fail
            go_loopw [12, 49] (fun _ i wr => ∃ (q : Nat) (v2 : Value), q ≤ 4 ∧ i = .int .i64 q ∧ PtI w2 wr gp (gp + 1) (.slice A5 (j + 1) c5) v2 (ptS s phi (j + 1)) (ptM phi k (matesOf m) (4 * j + q))) (fun _ i _ => 4 - (intOf i).toNat)
            case atStart => exact ⟨0, _, by omega, rfl, HI5.out⟩
            case round =>
              obtain ⟨q, v3, hq, rfl, hI⟩ := hrel
              have hq0 : (0 : Int) ≤ (q : Int) := Int.natCast_nonneg _
              by_cases hq4 : q < 4
              · have hq1 : (q : Int) < 4 := by omega
                obtain ⟨hbw, hdb, hbz, har⟩ := HW.out wr hI.below
                obtain ⟨k1, k2, k3⟩ := HC4.out
                obtain ⟨hm1, hm2⟩ := HMV.out (c4 + q) (by omega)
                have hcel := (hbw.cell (p := ⟨b2, off2 + (c4 + q), none⟩) hb2).trans (hcm (c4 + q) (by omega))
                rw [hm1] at hcel
                have hsu := ptM_succ phi k (matesOf m) (4 * j + q)
                have hup : upH phi (4 * j + q) = c4 + q := by
                  unfold upH
                  rw [show (4 * j + q) / 4 = j by omega, show (4 * j + q) % 4 = q by omega, HCC.out]; omega
                have hpn : partN phi k (matesOf m) (4 * j + q) = 4 * numT phi k (matesOf m (c4 + q) / 4) + matesOf m (c4 + q) % 4 := by unfold partN; rw [hup]
                rw [hpn] at hsu
                obtain ⟨a, ha⟩ : ∃ a, matesOf m (c4 + q) = a := ⟨_, rfl⟩
                rw [ha] at hcel hsu hm2
                have hca : wr.cell? ⟨b2, off2 + c4 + q, none⟩ = some (.int .i64 (a : Nat)) := by rw [Nat.add_assoc]; exact hcel
                obtain ⟨a4, ha4⟩ : ∃ a4, a / 4 = a4 := ⟨_, rfl⟩
                obtain ⟨r, hr⟩ : ∃ r, a % 4 = r := ⟨_, rfl⟩
                rw [ha4, hr] at hsu
                have la4 : a4 < 64 := by have := HNM.out; omega
                have hnc := har.cell a4 la4
                have hzl := numT_lt phi k a4
                obtain ⟨z, hz⟩ : ∃ z, numT phi k a4 = z := ⟨_, rfl⟩
                unfold iv at hnc
                rw [hz] at hnc hsu hzl
                have hzm : z < 64 := by omega
                have n0 : (0 : Int) ≤ (a : Int) := Int.natCast_nonneg _
                have n1 : (a : Int) ≤ 256 := by omega
                have n2 : (a : Int) / 4 = (a4 : Int) := by omega
                have n3 : (a : Int) % 4 = (r : Int) := by omega
                have n4 : (0 : Int) ≤ (a4 : Int) := Int.natCast_nonneg _
                have n5 : (a4 : Int) < 64 := by omega
                have n6 : (0 : Int) ≤ (z : Int) := Int.natCast_nonneg _
                have n7 : (z : Int) < 64 := by omega
                have n8 : (0 : Int) ≤ (r : Int) := Int.natCast_nonneg _
                have n9 : (r : Int) < 4 := by omega
                have wa4 : IntKind.i64.wrap ((a4 : Nat) : Int) = (a4 : Int) := IntWalk.i64_in _ (by omega)
                have wr4 : IntKind.i64.wrap ((r : Nat) : Int) = (r : Int) := IntWalk.i64_in _ (by omega)
                have wz4 : IntKind.i64.wrap (4 * (z : Int)) = 4 * (z : Int) := IntWalk.i64_in _ (by omega)
                obtain ⟨y, hy⟩ : ∃ y : Int, 4 * (z : Int) + (r : Int) = y := ⟨_, rfl⟩
                have hyc : (((4 * z + r : Nat) : Int)) = y := by omega
                rw [hyc] at hsu
                have tm : (a : Int).tmod 4 = (r : Int) := by rw [Int.tmod_eq_emod_of_nonneg (by omega)]; exact n3
                have wzy : IntKind.i64.wrap (4 * (z : Int) + (r : Int)) = y := by rw [hy]; exact IntWalk.i64_in _ (by omega)
                have wzt : IntKind.i64.wrap (4 * (z : Int) + (a : Int).tmod 4) = y := by rw [tm]; exact wzy
                have wy : IntKind.i64.wrap y = y := IntWalk.i64_in _ (by omega)
                have HSU2 := Lib.hid hsu
                have HI := Lib.hid hI
                have q1 := hI.b1
                have qf1 := hI.bf 1
                have hpl2 : gp < wr.heap.size := Nat.lt_of_lt_of_le hI.hgp hI.base
                have hwl2 := below_alloc wr (.cells #[.int .i64 y] 3)
                have q1a := (hwl2.cell (p := ⟨gp, 1, none⟩) hpl2).trans q1
                have hnca := (hwl2.cell (p := ⟨ga, a4, none⟩) har.lt).trans hnc
                have hbs2 := hI.base
                have hly : (ptM phi k (matesOf m) (4 * j + q)).length = 4 * j + q := ptM_len _ _ _ _
                obtain ⟨sy, hsy⟩ : ∃ sy, ptM phi k (matesOf m) (4 * j + q) = sy := ⟨_, rfl⟩
                rw [hsy] at HI HSU2 hly
                have hly2 : sy.length ≤ 1000000 := by omega
                clear hbw hdb hbz har k1 k2 k3 hm1 hcel hsu hup hpn ha ha4 hr hz hzl hyc hI hsy hm2
                go_upto_region 15 with fail
                go_region_law (refine step_append_int_at rfl (.tmp 54) (.tmp 63) rfl (gp + 1) v3 sy rfl (by exact (HI.out.m.keep (below_alloc wr (.cells #[.int .i64 y] 3)).drew)) wr.heap.size y rfl (by show (wr.alloc (.cells #[.int .i64 y] 3)).cell? ⟨wr.heap.size, 0, none⟩ = some (.int .i64 y); rw [World.cell?_alloc_at _ _ _ _ rfl]; rfl) hly2 (by show gp + 1 ≤ (wr.alloc (.cells #[.int .i64 y] 3)).heap.size; simp; omega) ?_; intro A6 c6 w6 ho6 hg6 hv6; have hb6 : Below wr.heap.size wr (wr.alloc (.cells #[.int .i64 y] 3)).drew := (below_alloc wr _).drew; obtain ⟨mc, mf, mb⟩ := HI.out.mid hb6 HI.out.m hg6; have mc1 := mc 1 _ q1; have mf1 := mf 1; have HST := Lib.hid (HI.out.stepM hb6 hg6 ho6 hv6))
                all_goals
                  go_wp2
                  go_roundw
                  case rel => exact ⟨q + 1, _, by omega, by go_num, by have h := HST.out; rw [hly, ← HSU2.out] at h; first | exact h | exact h.drew⟩
                  case measure => simp [intOf]; omega
              · obtain rfl : q = 4 := by omega
                have HI := Lib.hid hI
                clear hI
                go_wp2
                go_roundw
                case rel => exact ⟨j + 1, _, _, by omega, by go_num, HI.out⟩
                case measure => simp [intOf]; omega
        · obtain rfl : k = j := by omega
          obtain ⟨A1, c1, rfl⟩ := hI.s.shp (ptS_len s phi k)
          obtain ⟨B1, d1, rfl⟩ := hI.m.shp (ptM_len phi k (matesOf m) (4 * k))
          have y0 := hI.b0
          have y1 := hI.b1
          have y2 := hI.b2
          have r0 := hbz.1.1
          have r1 := hbz.1.2.1
          have r2 := hbz.1.2.2.1
          have f0 := hbz.2 0
          have f1 := hbz.2 1
          have f2 := hbz.2 2
          obtain ⟨q0, q1, q2⟩ := set3_cells wr gr (.slice A1 k c1) (.slice B1 (4 * k) d1) (.int .i64 0) r0 r1 r2
          have HF : Hid (PtPost w k (ptS s phi k) (ptM phi k (matesOf m) (4 * k)) (.returned (dval A1 k c1 B1 (4 * k) d1 0)) (set3 wr gr (.slice A1 k c1) (.slice B1 (4 * k) d1) (.int .i64 0))) := Lib.hid (by
            have hg := HG.out
            have hga := HGA.out
            have hgp := HGP.out
            refine ⟨A1, c1, B1, d1, rfl, (hI.s.set3 (fun e => ?_) _ _ _).mono (by omega), (hI.m.set3 (fun e => ?_) _ _ _).mono (by omega), set3_below hbw (by omega) _ _ _⟩
            · have := (World.ownsRow.lt hI.s _ e).1; omega
            · have := (World.ownsRow.lt hI.m _ e).1; omega)
          clear hI hbw hdb hbz har
          go_wp2
          exact bodyPost_ret (v := dval A1 k c1 B1 (4 * k) d1 0) (by simp [results, Try.results117, go_sem, q0, q1, q2]) rfl HF.out

end Go.Proofs.Ytkfjledhnakfoaa
