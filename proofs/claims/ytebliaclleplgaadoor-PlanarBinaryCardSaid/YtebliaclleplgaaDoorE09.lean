import Derived.Test.YtebliaclleplgaaDoorE08
/- Walk: the law PlanarEncodes. -/
namespace Go.Proofs.YtebliaclleplgaaDoor
open Go.ChangeShapes Go.WideShapes Go.ChangeAt Go.RowKit Go.Joins

theorem dv_valid {w : World} {A B : Option Addr} {ns nm : Nat} {s m : List Int} {lp : Int} (hs : RI w A ns s) (hm : RI w B nm m) (hmI : ∀ z ∈ m, inI z) (hv : validB s m lp = true) : DV w A ns B nm s m :=
  DV.lim (lp := lp) hs hm hmI (by rw [← hs.1, ← hm.1]; exact (bk_facts hv).lim)
set_option maxHeartbeats 1600000 in
set_option maxRecDepth 100000 in
theorem encode_no (A B : Option Addr) (ns cs nm cm : Nat) (lp : Int) (s m : List Int) (w : World) (hs : RI w A ns s) (hm : RI w B nm m) (hmI : ∀ z ∈ m, inI z) (hv : validB s m lp = false) :
    Calls Tryd.prog 19 #[dval A ns cs B nm cm lp] w fun e w' => e = .returned (.tuple #[.slice none 0 0, .int .i64 1]) ∧ Below w.heap.size w w' := by
  have hb0 := below_alloc w (dbox A ns cs B nm cm lp)
  obtain ⟨d0, d1, d2, dlt⟩ := DB.new w A ns cs B nm cm lp
  have CV := Lib.hid (valid_all cs cm (hs.keep hb0) (hm.keep hb0) hmI false hv)
  clear hs hm hmI hv
  go_enter Tryd.func19, Tryd.ntmps19
  go_wp2_with ((go_at_call 13; ((with_reducible refine CV.out.mono ?_); rintro e w1 ⟨rfl, hb1⟩)))
  go_ret2
  exact ⟨rfl, below_step hb0 hb1⟩
set_option maxHeartbeats 1600000 in
set_option maxRecDepth 100000 in
theorem format_no (A B : Option Addr) (ns cs nm cm : Nat) (lp : Int) (s m : List Int) (w : World) (hs : RI w A ns s) (hm : RI w B nm m) (hmI : ∀ z ∈ m, inI z) (hv : validB s m lp = false) :
    Calls Tryd.prog 10 #[dval A ns cs B nm cm lp] w fun e w' => e = .returned (.tuple #[.string ⟨#[]⟩, .int .i64 1]) ∧ Below w.heap.size w w' := by
  have hb0 := below_alloc w (dbox A ns cs B nm cm lp)
  obtain ⟨d0, d1, d2, dlt⟩ := DB.new w A ns cs B nm cm lp
  have CV := Lib.hid (valid_all cs cm (hs.keep hb0) (hm.keep hb0) hmI false hv)
  clear hs hm hmI hv
  go_enter Tryd.func10, Tryd.ntmps10
  go_wp2_with ((go_at_call 13; ((with_reducible refine CV.out.mono ?_); rintro e w1 ⟨rfl, hb1⟩)))
  go_ret2
  exact ⟨rfl, below_step hb0 hb1⟩

set_option maxHeartbeats 6400000 in
set_option maxRecDepth 100000 in
theorem pencodes_walk (A B : Option Addr) (ns cs nm cm : Nat) (lp : Int) (s m : List Int) (w : World) (hs : RI w A ns s) (hm : RI w B nm m) (hmI : ∀ z ∈ m, inI z) (hP : PW w) :
    Calls Tryd.prog 6 #[dval A ns cs B nm cm lp] w fun e w' => e = .returned (.bool true) ∧ Below w.heap.size w w' := by
  have hb0 := below_alloc w (dbox A ns cs B nm cm lp)
  have HD := Lib.hid (DB.new w A ns cs B nm cm lp)
  have CA := Lib.hid (pawake_any (w.alloc (dbox A ns cs B nm cm lp)) (PW.keep hP hb0))
  cases hv : validB s m lp with
  | false =>
    have CE : ∀ W, Below w.heap.size w W → Hid (Calls Tryd.prog 19 #[dval A ns cs B nm cm lp] W fun e w' => e = .returned (.tuple #[.slice none 0 0, .int .i64 1]) ∧ Below W.heap.size W w') := fun W hb => encode_no A B ns cs nm cm lp s m W (hs.keep hb) (hm.keep hb) hmI hv
    have CR : ∀ W, Below w.heap.size w W → Hid (Calls Tryd.prog 11 #[dval A ns cs B nm cm lp] W fun e w' => e = .returned (.bool false) ∧ Below W.heap.size W w') := fun W hb => rvalid_all cs cm (hs.keep hb) (hm.keep hb) hmI false hv
    clear hs hm hmI hv hP
    go_enter Tryd.func6, Tryd.ntmps6
    go_wp2_with (first
      | (go_at_call 9; ((with_reducible refine CA.out.mono ?_); rintro e w1 ⟨rfl, hb1'⟩; have hb1 := below_step hb0 hb1'; have HD1 := Lib.hid (HD.out.keep hb1'); obtain ⟨a0, a1, a2, alt⟩ := HD1.out))
      | (go_at_call 19; ((with_reducible refine (CE _ hb1).out.mono ?_); rintro e w2 ⟨rfl, hb2'⟩; have hb2 := below_step hb1 hb2'; have HD2 := Lib.hid (HD1.out.keep hb2'); obtain ⟨b0, b1, b2, blt⟩ := HD2.out))
      | (go_at_call 11; ((with_reducible refine (CR _ hb2).out.mono ?_); rintro e w3 ⟨rfl, hb3⟩)))
    go_ret
    exact ⟨rfl, below_step hb2 hb3⟩
  | true =>
    have hdv := dv_valid hs hm hmI hv
    have CE : ∀ W, Below w.heap.size w W → Hid (Calls Tryd.prog 19 #[dval A ns cs B nm cm lp] W fun e w' => ∃ A' c, e = .returned (.tuple #[.slice A' (enL s (matesOf m) lp nm).length c, .int .i64 0]) ∧ RB w' A' (enL s (matesOf m) lp nm).length (enL s (matesOf m) lp nm) ∧ Below W.heap.size W w') := fun W hb => encode_yes A B ns cs nm cm lp s m W (hdv.keep hb) hv
    have CB : ∀ W, Below w.heap.size w W → Hid (Calls Tryd.prog 20 #[dval A ns cs B nm cm lp] W fun e w' => ∃ A' c, e = .returned (.slice A' (enL s (matesOf m) lp nm).length c) ∧ RB w' A' (enL s (matesOf m) lp nm).length (enL s (matesOf m) lp nm) ∧ Below W.heap.size W w') := fun W hb => rbytes_any A B ns cs nm cm lp s m W (hdv.keep hb) hv
    have CR : ∀ W, Below w.heap.size w W → Hid (Calls Tryd.prog 11 #[dval A ns cs B nm cm lp] W fun e w' => e = .returned (.bool true) ∧ Below W.heap.size W w') := fun W hb => rvalid_all cs cm (hs.keep hb) (hm.keep hb) hmI true hv
    have hN : 0 < (enL s (matesOf m) lp nm).length := by simp [enL]
    obtain ⟨xs, hxs⟩ : ∃ xs, enL s (matesOf m) lp nm = xs := ⟨_, rfl⟩
    simp only [hxs] at CE CB hN
    obtain ⟨N, hNN⟩ : ∃ N, xs.length = N := ⟨_, rfl⟩
    simp only [hNN] at CE CB hN
    obtain ⟨str, hstr⟩ : ∃ str, strOfNums xs = str := ⟨_, rfl⟩
    have CONV : Hid (∀ (W : World) (A : Option Addr) (c : Nat), RB W A N xs → (convert 39 9 (.slice A N c)).run Tryd.prog W = .ok (.string str) W) := Lib.hid fun W A c h => by rw [← hstr]; exact rb_string h hN
    clear hs hm hmI hv hP hdv hxs hNN hstr
    go_enter Tryd.func6, Tryd.ntmps6
    go_upto_region 6 with (first
      | (go_at_call 9; ((with_reducible refine CA.out.mono ?_); rintro e w1 ⟨rfl, hb1'⟩; have hb1 := below_step hb0 hb1'; have HD1 := Lib.hid (HD.out.keep hb1'); obtain ⟨a0, a1, a2, alt⟩ := HD1.out))
      | (go_at_call 19; ((with_reducible refine (CE _ hb1).out.mono ?_); rintro e w2 ⟨A2, c2, rfl, hr2, hb2'⟩; have hb2 := below_step hb1 hb2'; have HD2 := Lib.hid (HD1.out.keep hb2'); obtain ⟨b0, b1, b2, blt⟩ := HD2.out))
      | (go_at_call 11; ((with_reducible refine (CR _ hb2).out.mono ?_); rintro e w3 ⟨rfl, hb3'⟩; have hb3 := below_step hb2 hb3'; have HD3 := Lib.hid (HD2.out.keep hb3'); have hr3 := hr2.keep hb3')))
    obtain ⟨p0, p1, p2, plt⟩ := HD3.out
    have HR3 := Lib.hid hr3
    have hbD : Below w3.heap.size w3 w3.drew := (Below.refl _ _).drew
    have cv0 := CONV.out w3.drew A2 c2 (HR3.out.keep hbD)
    clear hr2 hr3 a0 a1 a2 alt b0 b1 b2 blt
    go_region_with (first
        | (go_at_call 20; ((with_reducible refine (CB _ (below_step hb3 hbD)).out.mono ?_); rintro e w4 ⟨A4, c4, rfl, hr4, hb4'⟩; have hb4 := below_step hbD hb4'; have cv1 := CONV.out w4 A2 c2 (HR3.out.keep hb4); have cv2 := CONV.out w4 A4 c4 hr4; clear hr4)))
    all_goals (go_wp2; go_ret; exact ⟨rfl, below_step hb3 hb4⟩)

end Go.Proofs.YtebliaclleplgaaDoor

/- Walks: drawn, Decode. -/
namespace Go.Proofs.YtebliaclleplgaaDoor
open Go.ChangeShapes Go.WideShapes Go.ChangeAt Go.RowKit Go.Joins

abbrev set3p (W : World) (g : Nat) (a b c : Value) : World := ((W.setCell ⟨g, 0, none⟩ a).setCell ⟨g, 1, none⟩ b).setCell ⟨g, 2, none⟩ c
theorem set3p_below {B : Nat} {a W : World} (h : Below B a W) {g : Nat} (hg : B ≤ g) (x y z : Value) : Below B a (set3p W g x y z) := below_set (below_set (below_set h hg _) hg _) hg _
/-- A box of the call's own, as it was made. -/
def BxP (w : World) (g : Nat) : Prop := DB w g none 0 0 none 0 0 0 ∧ ∀ i, w.frozen? ⟨g, i, none⟩ = false
theorem BxP.kp {w w' : World} {g : Nat} (h : BxP w g) (hb : Below w.heap.size w w') : BxP w' g := ⟨h.1.keep hb, fun i => (hb.frozen (p := ⟨g, i, none⟩) h.1.2.2.2).trans (h.2 i)⟩
theorem BxP.new (w : World) : BxP (w.alloc (.cells #[.slice none 0 0, .slice none 0 0, .int .i64 0] 24)) w.heap.size :=
  ⟨DB.new w none 0 0 none 0 0 0, fun i => frozen_of_row _ w.heap.size i _ _ (heap_alloc_new w _)⟩
theorem set3p_cells {W : World} {g : Nat} (h : BxP W g) (a b c : Value) : (set3p W g a b c).cell? ⟨g, 0, none⟩ = some a ∧ (set3p W g a b c).cell? ⟨g, 1, none⟩ = some b ∧ (set3p W g a b c).cell? ⟨g, 2, none⟩ = some c := by
  obtain ⟨q0, q1, q2, _⟩ := h.1
  refine ⟨?_, ?_, ?_⟩
  · rw [World.cell?_setCell_other _ _ _ _ (by simp), World.cell?_setCell_other _ _ _ _ (by simp), World.cell?_setCell_same _ _ _ q0]
  · have h1 : (W.setCell ⟨g, 0, none⟩ a).cell? ⟨g, 1, none⟩ = some (.slice none 0 0) := by rw [World.cell?_setCell_other _ _ _ _ (by simp)]; exact q1
    rw [World.cell?_setCell_other _ _ _ _ (by simp), World.cell?_setCell_same _ _ _ h1]
  · have h2 : ((W.setCell ⟨g, 0, none⟩ a).setCell ⟨g, 1, none⟩ b).cell? ⟨g, 2, none⟩ = some (.int .i64 0) := by rw [World.cell?_setCell_other _ _ _ _ (by simp), World.cell?_setCell_other _ _ _ _ (by simp)]; exact q2
    rw [World.cell?_setCell_same _ _ _ h2]
theorem RI.set3p {w : World} {A : Option Addr} {n g : Nat} {xs : List Int} (h : RI w A n xs) (hg : 0 < n → ∃ b o, A = some ⟨b, o, none⟩ ∧ b ≠ g) (x y z : Value) : RI (Go.Proofs.YtebliaclleplgaaDoor.set3p w g x y z) A n xs := by
  refine ⟨h.1, fun hn => ?_⟩
  obtain ⟨b, off, rfl, hb, hc⟩ := h.2 hn
  obtain ⟨b', o', e, hne⟩ := hg hn
  injection e with e; injection e with e1
  have : b ≠ g := by omega
  exact ⟨b, off, rfl, by simp [World.setCell]; exact hb, fun j hj => by
    rw [World.cell?_setCell_other _ _ _ _ (by simp <;> omega), World.cell?_setCell_other _ _ _ _ (by simp <;> omega), World.cell?_setCell_other _ _ _ _ (by simp <;> omega)]; exact hc j hj⟩
/-- Where a slice that was there before a block's making does not lie. -/
theorem ri_old {w : World} {A : Option Addr} {n : Nat} {xs : List Int} (h : RI w A n xs) (hn : 0 < n) : ∃ b o, A = some ⟨b, o, none⟩ ∧ b < w.heap.size := by
  obtain ⟨b, o, e, hb, _⟩ := h.2 hn
  exact ⟨b, o, e, hb⟩

set_option maxHeartbeats 3200000 in
set_option maxRecDepth 100000 in
theorem drawn_yes (A B : Option Addr) (ns cs nm cm : Nat) (lp : Int) (s m : List Int) (w : World) (h : DV w A ns B nm s m) (hv : validB s m lp = true) :
    Calls Tryd.prog 41 #[.slice A ns cs, .slice B nm cm, .int .i64 lp] w fun e w' => e = .returned (.tuple #[dval A ns cs B nm cm lp, .int .i64 0]) ∧ Below w.heap.size w w' := by
  have hb0 := below_alloc w (.cells #[.slice none 0 0, .slice none 0 0, .int .i64 0] 24)
  have HX := Lib.hid (BxP.new w)
  have hb1 := below_alloc (w.alloc (.cells #[.slice none 0 0, .slice none 0 0, .int .i64 0] 24)) (dbox A ns cs B nm cm lp)
  have HX1 := Lib.hid (HX.out.kp hb1)
  have HD := Lib.hid (DB.new (w.alloc (.cells #[.slice none 0 0, .slice none 0 0, .int .i64 0] 24)) A ns cs B nm cm lp)
  have HV := Lib.hid ((h.keep hb0).keep hb1)
  have hb01 := below_step hb0 hb1
  have CV : ∀ W, DV W A ns B nm s m → Hid (Calls Tryd.prog 13 #[dval A ns cs B nm cm lp] W fun e w' => e = .returned (.bool true) ∧ Below W.heap.size W w') := fun W h => h.valid cs cm lp true hv
  have hsz : (w.alloc (.cells #[.slice none 0 0, .slice none 0 0, .int .i64 0] 24)).heap.size = w.heap.size + 1 := by simp
  rw [hsz] at HD
  clear h hv
  unfold dbox at *
  go_enter Tryd.func41, Tryd.ntmps41
  go_upto_region 2 with fail
  generalize (w.alloc (.cells #[.slice none 0 0, .slice none 0 0, .int .i64 0] 24)).alloc (.cells #[.slice A ns cs, .slice B nm cm, .int .i64 lp] 24) = wB at *
  clear hsz
  obtain ⟨y0, y1, y2, ylt⟩ := HD.out
  go_wp2_with ((go_at_call 13; ((with_reducible refine (CV _ HV.out).out.mono ?_); rintro e w2 ⟨rfl, hb2⟩; have HX2 := Lib.hid (HX1.out.kp hb2); obtain ⟨z0, z1, z2, zlt⟩ := HD.out.keep hb2; have r0 := HX2.out.1.1; have r1 := HX2.out.1.2.1; have r2 := HX2.out.1.2.2.1; have g0 := HX2.out.2 0; have g1 := HX2.out.2 1; have g2 := HX2.out.2 2)))
  obtain ⟨k0, k1, k2⟩ := set3p_cells HX2.out (.slice A ns cs) (.slice B nm cm) (.int .i64 lp)
  exact bodyPost_ret (v := .tuple #[dval A ns cs B nm cm lp, .int .i64 0]) (by simp [results, Tryd.results41, go_sem, k0, k1, k2]) rfl ⟨rfl, set3p_below (below_step hb01 hb2) (Nat.le_refl _) _ _ _⟩
set_option maxHeartbeats 3200000 in
set_option maxRecDepth 100000 in
theorem drawn_no (A B : Option Addr) (ns cs nm cm : Nat) (lp : Int) (s m : List Int) (w : World) (h : DV w A ns B nm s m) (hv : validB s m lp = false) :
    Calls Tryd.prog 41 #[.slice A ns cs, .slice B nm cm, .int .i64 lp] w fun e w' => e = .returned (.tuple #[dval none 0 0 none 0 0 0, .int .i64 7]) ∧ Below w.heap.size w w' := by
  have hb0 := below_alloc w (.cells #[.slice none 0 0, .slice none 0 0, .int .i64 0] 24)
  have HX := Lib.hid (BxP.new w)
  have hb1 := below_alloc (w.alloc (.cells #[.slice none 0 0, .slice none 0 0, .int .i64 0] 24)) (dbox A ns cs B nm cm lp)
  have HX1 := Lib.hid (HX.out.kp hb1)
  have HD := Lib.hid (DB.new (w.alloc (.cells #[.slice none 0 0, .slice none 0 0, .int .i64 0] 24)) A ns cs B nm cm lp)
  have HV := Lib.hid ((h.keep hb0).keep hb1)
  have hb01 := below_step hb0 hb1
  have CV : ∀ W, DV W A ns B nm s m → Hid (Calls Tryd.prog 13 #[dval A ns cs B nm cm lp] W fun e w' => e = .returned (.bool false) ∧ Below W.heap.size W w') := fun W h => h.valid cs cm lp false hv
  have hsz : (w.alloc (.cells #[.slice none 0 0, .slice none 0 0, .int .i64 0] 24)).heap.size = w.heap.size + 1 := by simp
  rw [hsz] at HD
  clear h hv
  unfold dbox at *
  go_enter Tryd.func41, Tryd.ntmps41
  go_upto_region 2 with fail
  generalize (w.alloc (.cells #[.slice none 0 0, .slice none 0 0, .int .i64 0] 24)).alloc (.cells #[.slice A ns cs, .slice B nm cm, .int .i64 lp] 24) = wB at *
  clear hsz
  obtain ⟨y0, y1, y2, ylt⟩ := HD.out
  go_wp2_with ((go_at_call 13; ((with_reducible refine (CV _ HV.out).out.mono ?_); rintro e w2 ⟨rfl, hb2⟩; have HX2 := Lib.hid (HX1.out.kp hb2); obtain ⟨z0, z1, z2, zlt⟩ := HD.out.keep hb2; have r0 := HX2.out.1.1; have r1 := HX2.out.1.2.1; have r2 := HX2.out.1.2.2.1; have g0 := HX2.out.2 0; have g1 := HX2.out.2 1; have g2 := HX2.out.2 2)))
  obtain ⟨k0, k1, k2⟩ := set3p_cells HX2.out (.slice none 0 0) (.slice none 0 0) (.int .i64 0)
  exact bodyPost_ret (v := .tuple #[dval none 0 0 none 0 0 0, .int .i64 7]) (by simp [results, Tryd.results41, go_sem, k0, k1, k2]) rfl ⟨rfl, set3p_below (below_step hb01 hb2) (Nat.le_refl _) _ _ _⟩

/-- The diagram that is decoded, or nothing and an error. -/
def DcPost (d : Dec) (w : World) (e : Ending) (w' : World) : Prop :=
  ∃ A ns cs B nm cm, e = .returned (.tuple #[dval A ns cs B nm cm d.lp, .int .i64 d.E]) ∧ RI w' A ns d.s ∧ RI w' B nm d.m ∧ Below w.heap.size w w'
theorem dc_none (d : Dec) (E : Int) (hd : d = ⟨E, [], [], 0⟩) {w w' : World} (hb : Below w.heap.size w w') : DcPost d w (.returned (.tuple #[dval none 0 0 none 0 0 0, .int .i64 E])) w' := by
  subst hd
  exact ⟨none, 0, 0, none, 0, 0, rfl, RI.nil _ _, RI.nil _ _, hb⟩
theorem rb_bits {w : World} {b o N n : Nat} {xs : List Int} (h : RB w (some ⟨b, o, none⟩) N xs) (hN : decEnd n ≤ N) : RB w (some ⟨b, o + 2, none⟩) ((n + 7) / 8) (decBits xs n) := by
  have hl := h.1
  unfold decEnd at hN
  refine ⟨by unfold decBits; rw [List.length_take, List.length_drop]; omega, fun hn => ?_⟩
  obtain ⟨b', o', e, hb, hc⟩ := h.2 (by omega)
  injection e with e; injection e with e1 e2; subst e1; subst e2
  refine ⟨b, o + 2, rfl, hb, fun j hj => ?_⟩
  rw [show o + 2 + j = o + (2 + j) by omega, hc (2 + j) (by omega)]
  simp [decBits, List.getD, hj]
theorem rb_mates {w : World} {b o N n fm : Nat} {xs : List Int} (h : RB w (some ⟨b, o, none⟩) N xs) (hN : decEnd n = N) (hf : 2 + (n + 7) / 8 = fm) : RB w (some ⟨b, o + fm, none⟩) (N - fm) (decMates xs n) := by
  have hl := h.1
  unfold decEnd at hN
  refine ⟨by unfold decMates; rw [List.length_drop]; omega, fun hn => ?_⟩
  obtain ⟨b', o', e, hb, hc⟩ := h.2 (by omega)
  injection e with e; injection e with e1 e2; subst e1; subst e2
  refine ⟨b, o + fm, rfl, hb, fun j hj => ?_⟩
  rw [show o + fm + j = o + (fm + j) by omega, hc (fm + j) (by omega)]
  simp [decMates, List.getD, hf]
theorem byteL_bits {xs : List Int} (h : byteL xs) (n : Nat) : byteL (decBits xs n) := fun i => by
  have := h (2 + i)
  unfold decBits
  simp only [List.getD, List.getElem?_take, List.getElem?_drop] at *
  split
  · exact this
  · simp
theorem byteL_mates {xs : List Int} (h : byteL xs) (n : Nat) : byteL (decMates xs n) := fun i => by
  have := h (2 + (n + 7) / 8 + i)
  unfold decMates
  simp only [List.getD, List.getElem?_drop] at *
  exact this

set_option maxHeartbeats 3200000 in
set_option maxRecDepth 100000 in
theorem decode_short (A : Option Addr) (N c : Nat) (w : World) (h2 : N < 2) : Calls Tryd.prog 21 #[.slice A N c] w fun e w' => e = .returned (.tuple #[dval none 0 0 none 0 0 0, .int .i64 4]) ∧ Below w.heap.size w w' := by
  have hb0 := below_alloc w (.cells #[.slice none 0 0, .slice none 0 0, .int .i64 0] 24)
  have HX := Lib.hid (BxP.new w)
  have h2' : (N : Int) < 2 := by omega
  obtain ⟨r0, r1, r2, rlt⟩ := HX.out.1
  have g0 := HX.out.2 0
  have g1 := HX.out.2 1
  have g2 := HX.out.2 2
  go_enter Tryd.func21, Tryd.ntmps21
  go_wp2
  exact bodyPost_ret (v := .tuple #[dval none 0 0 none 0 0 0, .int .i64 4]) (by simp [results, Tryd.results21, go_sem, r0, r1, r2]) rfl ⟨rfl, hb0⟩

end Go.Proofs.YtebliaclleplgaaDoor

/- Walks: Decode of bytes that are long enough, one theorem for each way out. -/
namespace Go.Proofs.YtebliaclleplgaaDoor
open Go.ChangeShapes Go.WideShapes Go.ChangeAt Go.RowKit Go.Joins

theorem below_drew0 {B : Nat} (w : World) : Below B w w.drew := ⟨rfl, rfl, rfl, Nat.le_refl _, fun _ _ => rfl⟩
theorem ln_range {n : Nat} {M : Nat → Nat} (h : ∀ x, M x < n ∨ M x = 0) (hn : n ≤ 1000) : ∀ j, j < n → -9223372036854775808 ≤ mt (lnM n M) j ∧ mt (lnM n M) j ≤ 9223372036854775807 := fun j hj => by
  have e : mt (lnM n M) j = (M j : Int) := by simp [mt, lnM, List.getD, hj]
  rw [e]
  have := h j
  omega
theorem below_drew1 {B : Nat} {a w : World} (h : Below B a w) : Below B a w.drew := ⟨h.os, h.tape, h.output, h.size, h.block⟩
set_option maxHeartbeats 6400000 in
set_option maxRecDepth 100000 in
theorem decode_full (A : Option Addr) (N c : Nat) (xs : List Int) (w : World) (hA : RB w A N xs) (hx : byteL xs) (h2 : 2 ≤ N) (hf : 64 < yN xs 0 ∨ 64 < yN xs 1) : Calls Tryd.prog 21 #[.slice A N c] w fun e w' => e = .returned (.tuple #[dval none 0 0 none 0 0 0, .int .i64 5]) ∧ Below w.heap.size w w' := by
  have hb0 := below_alloc w (.cells #[.slice none 0 0, .slice none 0 0, .int .i64 0] 24)
  have HX := Lib.hid (BxP.new w)
  have HRB := Lib.hid (hA.keep hb0)
  obtain ⟨b, off, rfl, hbb, hcc⟩ := (hA.keep hb0).2 (by omega)
  have q0 := hcc 0 (by omega)
  have q1 := hcc 1 (by omega)
  rw [Nat.add_zero, (yN_cast hx 0).1] at q0
  rw [(yN_cast hx 1).1] at q1
  have l0 := (yN_cast hx 0).2
  have l1 := (yN_cast hx 1).2
  clear hcc hA hbb
  clear hx HRB
  generalize yN xs 0 = n at *
  generalize yN xs 1 = lp at *
  have h20 : ¬ ((N : Int) < 2) := by omega
  have h21 : (0 : Int) < (N : Int) := by omega
  have h22 : (1 : Int) < (N : Int) := by omega
  have wn : IntKind.i64.wrap (n : Int) = (n : Int) := IntWalk.i64_in _ (by omega)
  have wl : IntKind.i64.wrap (lp : Int) = (lp : Int) := IntWalk.i64_in _ (by omega)
  have hff : (64 : Int) < (n : Int) ∨ (n : Int) ≤ 64 ∧ (64 : Int) < (lp : Int) := by omega
  clear hf h2 l0 l1
  go_enter Tryd.func21, Tryd.ntmps21
  go_upto_region 3 with fail
  generalize w.alloc (.cells #[.slice none 0 0, .slice none 0 0, .int .i64 0] 24) = wB at *
  obtain ⟨r0, r1, r2, rlt⟩ := HX.out.1
  have g0 := HX.out.2 0
  have g1 := HX.out.2 1
  have g2 := HX.out.2 2
  rcases hff with h | ⟨h, h'⟩
  all_goals
    go_wp2
    go_region
    go_wp2
    obtain ⟨k0, k1, k2⟩ := set3p_cells HX.out (.slice none 0 0) (.slice none 0 0) (.int .i64 0)
    exact bodyPost_ret (v := .tuple #[dval none 0 0 none 0 0 0, .int .i64 5]) (by simp [results, Tryd.results21, go_sem, k0, k1, k2]) rfl ⟨rfl, below_drew1 (set3p_below hb0 (Nat.le_refl _) _ _ _)⟩
set_option maxHeartbeats 6400000 in
set_option maxRecDepth 100000 in
theorem decode_short' (A : Option Addr) (N c : Nat) (xs : List Int) (w : World) (hA : RB w A N xs) (hx : byteL xs) (h2 : 2 ≤ N) (hn : yN xs 0 ≤ 64) (hlp : yN xs 1 ≤ 64) (hf : N < decEnd (yN xs 0)) : Calls Tryd.prog 21 #[.slice A N c] w fun e w' => e = .returned (.tuple #[dval none 0 0 none 0 0 0, .int .i64 4]) ∧ Below w.heap.size w w' := by
  have hb0 := below_alloc w (.cells #[.slice none 0 0, .slice none 0 0, .int .i64 0] 24)
  have HX := Lib.hid (BxP.new w)
  have HRB := Lib.hid (hA.keep hb0)
  obtain ⟨b, off, rfl, hbb, hcc⟩ := (hA.keep hb0).2 (by omega)
  have q0 := hcc 0 (by omega)
  have q1 := hcc 1 (by omega)
  rw [Nat.add_zero, (yN_cast hx 0).1] at q0
  rw [(yN_cast hx 1).1] at q1
  have l0 := (yN_cast hx 0).2
  have l1 := (yN_cast hx 1).2
  clear hcc hA hbb
  clear hx HRB
  generalize yN xs 0 = n at *
  generalize yN xs 1 = lp at *
  have h20 : ¬ ((N : Int) < 2) := by omega
  have h21 : (0 : Int) < (N : Int) := by omega
  have h22 : (1 : Int) < (N : Int) := by omega
  have wn : IntKind.i64.wrap (n : Int) = (n : Int) := IntWalk.i64_in _ (by omega)
  have wl : IntKind.i64.wrap (lp : Int) = (lp : Int) := IntWalk.i64_in _ (by omega)
  obtain ⟨nb, hnb⟩ : ∃ nb, (n + 7) / 8 = nb := ⟨_, rfl⟩
  have CB := fun W => Lib.hid (bytesOf_any n (by omega) W)
  simp only [hnb] at CB
  obtain ⟨fm, hfm⟩ : ∃ fm, 2 + nb = fm := ⟨_, rfl⟩
  obtain ⟨m2, hm2⟩ : ∃ m2, 2 * n = m2 := ⟨_, rfl⟩
  obtain ⟨en, hen⟩ : ∃ en, fm + m2 = en := ⟨_, rfl⟩
  have w1 : IntKind.i64.wrap (2 + (nb : Int)) = (fm : Int) := by rw [IntWalk.i64_in _ (by omega)]; omega
  have w2 : IntKind.i64.wrap (2 * (n : Int)) = (m2 : Int) := by rw [IntWalk.i64_in _ (by omega)]; omega
  have w3 : IntKind.i64.wrap ((fm : Int) + (m2 : Int)) = (en : Int) := by rw [IntWalk.i64_in _ (by omega)]; omega
  have hen' : decEnd n = en := by unfold decEnd; omega
  rw [hen'] at hf
  have hs : (N : Int) < (en : Int) := by omega
  have hfl : (n : Int) ≤ 64 := by omega
  have hfl2 : (lp : Int) ≤ 64 := by omega
  clear hf h2 l0 l1 hn hlp hen' hen hm2 hfm hnb
  go_enter Tryd.func21, Tryd.ntmps21
  go_upto_region 3 with fail
  generalize w.alloc (.cells #[.slice none 0 0, .slice none 0 0, .int .i64 0] 24) = wB at *
  obtain ⟨r0, r1, r2, rlt⟩ := HX.out.1
  have g0 := HX.out.2 0
  have g1 := HX.out.2 1
  have g2 := HX.out.2 2
  go_wp2
  go_region
  go_wp2_with (((go_at_call 52; ((with_reducible refine (CB _).out.mono ?_); rintro e w1 ⟨rfl, rfl⟩))))
  obtain ⟨k0, k1, k2⟩ := set3p_cells HX.out (.slice none 0 0) (.slice none 0 0) (.int .i64 0)
  exact bodyPost_ret (v := .tuple #[dval none 0 0 none 0 0 0, .int .i64 4]) (by simp [results, Tryd.results21, go_sem, k0, k1, k2]) rfl ⟨rfl, below_drew1 (set3p_below hb0 (Nat.le_refl _) _ _ _)⟩
set_option maxHeartbeats 6400000 in
set_option maxRecDepth 100000 in
theorem decode_long' (A : Option Addr) (N c : Nat) (xs : List Int) (w : World) (hA : RB w A N xs) (hx : byteL xs) (h2 : 2 ≤ N) (hn : yN xs 0 ≤ 64) (hlp : yN xs 1 ≤ 64) (hf : decEnd (yN xs 0) < N) : Calls Tryd.prog 21 #[.slice A N c] w fun e w' => e = .returned (.tuple #[dval none 0 0 none 0 0 0, .int .i64 3]) ∧ Below w.heap.size w w' := by
  have hb0 := below_alloc w (.cells #[.slice none 0 0, .slice none 0 0, .int .i64 0] 24)
  have HX := Lib.hid (BxP.new w)
  have HRB := Lib.hid (hA.keep hb0)
  obtain ⟨b, off, rfl, hbb, hcc⟩ := (hA.keep hb0).2 (by omega)
  have q0 := hcc 0 (by omega)
  have q1 := hcc 1 (by omega)
  rw [Nat.add_zero, (yN_cast hx 0).1] at q0
  rw [(yN_cast hx 1).1] at q1
  have l0 := (yN_cast hx 0).2
  have l1 := (yN_cast hx 1).2
  clear hcc hA hbb
  clear hx HRB
  generalize yN xs 0 = n at *
  generalize yN xs 1 = lp at *
  have h20 : ¬ ((N : Int) < 2) := by omega
  have h21 : (0 : Int) < (N : Int) := by omega
  have h22 : (1 : Int) < (N : Int) := by omega
  have wn : IntKind.i64.wrap (n : Int) = (n : Int) := IntWalk.i64_in _ (by omega)
  have wl : IntKind.i64.wrap (lp : Int) = (lp : Int) := IntWalk.i64_in _ (by omega)
  obtain ⟨nb, hnb⟩ : ∃ nb, (n + 7) / 8 = nb := ⟨_, rfl⟩
  have CB := fun W => Lib.hid (bytesOf_any n (by omega) W)
  simp only [hnb] at CB
  obtain ⟨fm, hfm⟩ : ∃ fm, 2 + nb = fm := ⟨_, rfl⟩
  obtain ⟨m2, hm2⟩ : ∃ m2, 2 * n = m2 := ⟨_, rfl⟩
  obtain ⟨en, hen⟩ : ∃ en, fm + m2 = en := ⟨_, rfl⟩
  have w1 : IntKind.i64.wrap (2 + (nb : Int)) = (fm : Int) := by rw [IntWalk.i64_in _ (by omega)]; omega
  have w2 : IntKind.i64.wrap (2 * (n : Int)) = (m2 : Int) := by rw [IntWalk.i64_in _ (by omega)]; omega
  have w3 : IntKind.i64.wrap ((fm : Int) + (m2 : Int)) = (en : Int) := by rw [IntWalk.i64_in _ (by omega)]; omega
  have hen' : decEnd n = en := by unfold decEnd; omega
  rw [hen'] at hf
  have hs : ¬ (N : Int) < (en : Int) := by omega
  have hl : (en : Int) < (N : Int) := by omega
  have hfl : (n : Int) ≤ 64 := by omega
  have hfl2 : (lp : Int) ≤ 64 := by omega
  clear hf h2 l0 l1 hn hlp hen' hen hm2 hfm hnb
  go_enter Tryd.func21, Tryd.ntmps21
  go_upto_region 3 with fail
  generalize w.alloc (.cells #[.slice none 0 0, .slice none 0 0, .int .i64 0] 24) = wB at *
  obtain ⟨r0, r1, r2, rlt⟩ := HX.out.1
  have g0 := HX.out.2 0
  have g1 := HX.out.2 1
  have g2 := HX.out.2 2
  go_wp2
  go_region
  go_wp2_with (((go_at_call 52; ((with_reducible refine (CB _).out.mono ?_); rintro e w1 ⟨rfl, rfl⟩))))
  obtain ⟨k0, k1, k2⟩ := set3p_cells HX.out (.slice none 0 0) (.slice none 0 0) (.int .i64 0)
  exact bodyPost_ret (v := .tuple #[dval none 0 0 none 0 0 0, .int .i64 3]) (by simp [results, Tryd.results21, go_sem, k0, k1, k2]) rfl ⟨rfl, below_drew1 (set3p_below hb0 (Nat.le_refl _) _ _ _)⟩
set_option maxHeartbeats 6400000 in
set_option maxRecDepth 100000 in
theorem decode_unused (A : Option Addr) (N c : Nat) (xs : List Int) (w : World) (hA : RB w A N xs) (hx : byteL xs) (h2 : 2 ≤ N) (hc : N ≤ c) (hn : yN xs 0 ≤ 64) (hlp : yN xs 1 ≤ 64) (hf : N = decEnd (yN xs 0)) (hu : unY (decBits xs (yN xs 0)) (yN xs 0) = true) : Calls Tryd.prog 21 #[.slice A N c] w fun e w' => e = .returned (.tuple #[dval none 0 0 none 0 0 0, .int .i64 3]) ∧ Below w.heap.size w w' := by
  have hb0 := below_alloc w (.cells #[.slice none 0 0, .slice none 0 0, .int .i64 0] 24)
  have HX := Lib.hid (BxP.new w)
  have HRB := Lib.hid (hA.keep hb0)
  obtain ⟨b, off, rfl, hbb, hcc⟩ := (hA.keep hb0).2 (by omega)
  have q0 := hcc 0 (by omega)
  have q1 := hcc 1 (by omega)
  rw [Nat.add_zero, (yN_cast hx 0).1] at q0
  rw [(yN_cast hx 1).1] at q1
  have l0 := (yN_cast hx 0).2
  have l1 := (yN_cast hx 1).2
  clear hcc hA hbb
  generalize yN xs 0 = n at *
  generalize yN xs 1 = lp at *
  have h20 : ¬ ((N : Int) < 2) := by omega
  have h21 : (0 : Int) < (N : Int) := by omega
  have h22 : (1 : Int) < (N : Int) := by omega
  have wn : IntKind.i64.wrap (n : Int) = (n : Int) := IntWalk.i64_in _ (by omega)
  have wl : IntKind.i64.wrap (lp : Int) = (lp : Int) := IntWalk.i64_in _ (by omega)
  obtain ⟨nb, hnb⟩ : ∃ nb, (n + 7) / 8 = nb := ⟨_, rfl⟩
  have CB := fun W => Lib.hid (bytesOf_any n (by omega) W)
  simp only [hnb] at CB
  obtain ⟨fm, hfm⟩ : ∃ fm, 2 + nb = fm := ⟨_, rfl⟩
  obtain ⟨m2, hm2⟩ : ∃ m2, 2 * n = m2 := ⟨_, rfl⟩
  obtain ⟨en, hen⟩ : ∃ en, fm + m2 = en := ⟨_, rfl⟩
  have w1 : IntKind.i64.wrap (2 + (nb : Int)) = (fm : Int) := by rw [IntWalk.i64_in _ (by omega)]; omega
  have w2 : IntKind.i64.wrap (2 * (n : Int)) = (m2 : Int) := by rw [IntWalk.i64_in _ (by omega)]; omega
  have w3 : IntKind.i64.wrap ((fm : Int) + (m2 : Int)) = (en : Int) := by rw [IntWalk.i64_in _ (by omega)]; omega
  have hen' : decEnd n = en := by unfold decEnd; omega
  rw [hen'] at hf
  subst hf
  have hfc : (fm : Int) ≤ (c : Int) := by omega
  have hfN : (fm : Int) ≤ (N : Int) := by omega
  have hf2 : (2 : Int) ≤ (fm : Int) := by omega
  have hfl : (n : Int) ≤ 64 := by omega
  have hfl2 : (lp : Int) ≤ 64 := by omega
  go_enter Tryd.func21, Tryd.ntmps21
  go_upto_region 3 with fail
  generalize w.alloc (.cells #[.slice none 0 0, .slice none 0 0, .int .i64 0] 24) = wB at *
  obtain ⟨r0, r1, r2, rlt⟩ := HX.out.1
  have g0 := HX.out.2 0
  have g1 := HX.out.2 1
  have g2 := HX.out.2 2
  go_wp2
  go_region
  have hb1 := below_drew1 hb0
  have HX1 := Lib.hid (HX.out.kp (below_drew0 wB))
  have HRB1 := Lib.hid (HRB.out.keep (below_drew0 wB))
  clear hb0 HX HRB r0 r1 r2 rlt g0 g1 g2 q0 q1
  generalize wB.drew = wC at *
  have HY : Hid (byteL (decBits xs n)) := Lib.hid (byteL_bits hx n)
  have CBt : ∀ W o' c', RB W (some ⟨b, o', none⟩) (fm - 2) (decBits xs n) → Hid (Calls Tryd.prog 53 #[.slice (some ⟨b, o', none⟩) (fm - 2) c', .int .i64 (n : Nat)] W fun e w' => ∃ r : Bool, e = .returned (.tuple #[.slice (some ⟨W.heap.size, 0, none⟩) n n, .bool r]) ∧ r = !(unY (decBits xs n) n) ∧ RI w' (some ⟨W.heap.size, 0, none⟩) n (sgY (decBits xs n) n) ∧ Below W.heap.size W w') := fun W o' c' h => Lib.hid (readBits_any _ _ c' n _ W h (by omega) hn HY.out)
  have HB1 : Hid (RB wC (some ⟨b, off + 2, none⟩) (fm - 2) (decBits xs n)) := Lib.hid (by have := rb_bits HRB1.out (n := n) (by omega); rwa [show (n + 7) / 8 = fm - 2 by omega] at this)
  have HB0 : Hid (c = 2 → RB wC (some ⟨b, off, none⟩) (fm - 2) (decBits xs n)) := Lib.hid fun e => ⟨HB1.out.1, fun h => absurd h (by omega)⟩
  have HHN := Lib.hid hn
  have HFM := Lib.hid hfm
  have HNB := Lib.hid hnb
  have HM2 := Lib.hid hm2
  clear hn hfm hnb hm2 hlp hen' hen h2 l0 l1
  go_wp2_with ((first | (go_at_call 52; ((with_reducible refine (CB _).out.mono ?_); rintro e w1 ⟨rfl, rfl⟩)) | (go_at_call 53; ((with_reducible refine (CBt _ _ _ (by first | with_reducible exact HB1.out | exact HB0.out (by omega))).out.mono ?_); rintro e w2 ⟨r, rfl, hr, hS, hb2⟩; rw [hu] at hr; subst hr; have HX2 := Lib.hid (HX1.out.kp hb2); have r0 := HX2.out.1.1; have r1 := HX2.out.1.2.1; have r2 := HX2.out.1.2.2.1; have g0 := HX2.out.2 0; have g1 := HX2.out.2 1; have g2 := HX2.out.2 2))))
  all_goals
    obtain ⟨k0, k1, k2⟩ := set3p_cells HX2.out (.slice none 0 0) (.slice none 0 0) (.int .i64 0)
    exact bodyPost_ret (v := .tuple #[dval none 0 0 none 0 0 0, .int .i64 3]) (by simp [results, Tryd.results21, go_sem, k0, k1, k2]) rfl ⟨rfl, set3p_below (below_step hb1 hb2) (Nat.le_refl _) _ _ _⟩
set_option maxHeartbeats 6400000 in
set_option maxRecDepth 100000 in
theorem decode_mates (A : Option Addr) (N c : Nat) (xs : List Int) (w : World) (hA : RB w A N xs) (hx : byteL xs) (h2 : 2 ≤ N) (hc : N ≤ c) (hn : yN xs 0 ≤ 64) (hlp : yN xs 1 ≤ 64) (hf : N = decEnd (yN xs 0)) (hu : unY (decBits xs (yN xs 0)) (yN xs 0) = false) (hbad : (msK (sgY (decBits xs (yN xs 0)) (yN xs 0)) (yN (decMates xs (yN xs 0))) (4 * yN xs 0) (4 * yN xs 0)).ok = false) : Calls Tryd.prog 21 #[.slice A N c] w fun e w' => e = .returned (.tuple #[dval none 0 0 none 0 0 0, .int .i64 3]) ∧ Below w.heap.size w w' := by
  have hb0 := below_alloc w (.cells #[.slice none 0 0, .slice none 0 0, .int .i64 0] 24)
  have HX := Lib.hid (BxP.new w)
  have HRB := Lib.hid (hA.keep hb0)
  obtain ⟨b, off, rfl, hbb, hcc⟩ := (hA.keep hb0).2 (by omega)
  have q0 := hcc 0 (by omega)
  have q1 := hcc 1 (by omega)
  rw [Nat.add_zero, (yN_cast hx 0).1] at q0
  rw [(yN_cast hx 1).1] at q1
  have l0 := (yN_cast hx 0).2
  have l1 := (yN_cast hx 1).2
  clear hcc hA hbb
  generalize yN xs 0 = n at *
  generalize yN xs 1 = lp at *
  have h20 : ¬ ((N : Int) < 2) := by omega
  have h21 : (0 : Int) < (N : Int) := by omega
  have h22 : (1 : Int) < (N : Int) := by omega
  have wn : IntKind.i64.wrap (n : Int) = (n : Int) := IntWalk.i64_in _ (by omega)
  have wl : IntKind.i64.wrap (lp : Int) = (lp : Int) := IntWalk.i64_in _ (by omega)
  obtain ⟨nb, hnb⟩ : ∃ nb, (n + 7) / 8 = nb := ⟨_, rfl⟩
  have CB := fun W => Lib.hid (bytesOf_any n (by omega) W)
  simp only [hnb] at CB
  obtain ⟨fm, hfm⟩ : ∃ fm, 2 + nb = fm := ⟨_, rfl⟩
  obtain ⟨m2, hm2⟩ : ∃ m2, 2 * n = m2 := ⟨_, rfl⟩
  obtain ⟨en, hen⟩ : ∃ en, fm + m2 = en := ⟨_, rfl⟩
  have w1 : IntKind.i64.wrap (2 + (nb : Int)) = (fm : Int) := by rw [IntWalk.i64_in _ (by omega)]; omega
  have w2 : IntKind.i64.wrap (2 * (n : Int)) = (m2 : Int) := by rw [IntWalk.i64_in _ (by omega)]; omega
  have w3 : IntKind.i64.wrap ((fm : Int) + (m2 : Int)) = (en : Int) := by rw [IntWalk.i64_in _ (by omega)]; omega
  have hen' : decEnd n = en := by unfold decEnd; omega
  rw [hen'] at hf
  subst hf
  have hfc : (fm : Int) ≤ (c : Int) := by omega
  have hfN : (fm : Int) ≤ (N : Int) := by omega
  have hf2 : (2 : Int) ≤ (fm : Int) := by omega
  have hfl : (n : Int) ≤ 64 := by omega
  have hfl2 : (lp : Int) ≤ 64 := by omega
  obtain ⟨nm, hnm⟩ : ∃ nm, nm = 4 * n := ⟨_, rfl⟩
  rw [← hnm] at hbad
  go_enter Tryd.func21, Tryd.ntmps21
  go_upto_region 3 with fail
  generalize w.alloc (.cells #[.slice none 0 0, .slice none 0 0, .int .i64 0] 24) = wB at *
  obtain ⟨r0, r1, r2, rlt⟩ := HX.out.1
  have g0 := HX.out.2 0
  have g1 := HX.out.2 1
  have g2 := HX.out.2 2
  go_wp2
  go_region
  have hb1 := below_drew1 hb0
  have HX1 := Lib.hid (HX.out.kp (below_drew0 wB))
  have HRB1 := Lib.hid (HRB.out.keep (below_drew0 wB))
  clear hb0 HX HRB r0 r1 r2 rlt g0 g1 g2 q0 q1
  generalize wB.drew = wC at *
  have HY : Hid (byteL (decBits xs n)) := Lib.hid (byteL_bits hx n)
  have CBt : ∀ W o' c', RB W (some ⟨b, o', none⟩) (fm - 2) (decBits xs n) → Hid (Calls Tryd.prog 53 #[.slice (some ⟨b, o', none⟩) (fm - 2) c', .int .i64 (n : Nat)] W fun e w' => ∃ r : Bool, e = .returned (.tuple #[.slice (some ⟨W.heap.size, 0, none⟩) n n, .bool r]) ∧ r = !(unY (decBits xs n) n) ∧ RI w' (some ⟨W.heap.size, 0, none⟩) n (sgY (decBits xs n) n) ∧ Below W.heap.size W w') := fun W o' c' h => Lib.hid (readBits_any _ _ c' n _ W h (by omega) hn HY.out)
  have HB1 : Hid (RB wC (some ⟨b, off + 2, none⟩) (fm - 2) (decBits xs n)) := Lib.hid (by have := rb_bits HRB1.out (n := n) (by omega); rwa [show (n + 7) / 8 = fm - 2 by omega] at this)
  have HB0 : Hid (c = 2 → RB wC (some ⟨b, off, none⟩) (fm - 2) (decBits xs n)) := Lib.hid fun e => ⟨HB1.out.1, fun h => absurd h (by omega)⟩
  have HZ : Hid (byteL (decMates xs n)) := Lib.hid (byteL_mates hx n)
  have CMt : ∀ W o' c' S, RB W (some ⟨b, o', none⟩) (N - fm) (decMates xs n) → RI W S n (sgY (decBits xs n) n) → Hid (Calls Tryd.prog 54 #[.slice (some ⟨b, o', none⟩) (N - fm) c', .slice S n n] W fun e w' => e = .returned (.tuple #[.slice none 0 0, .bool false]) ∧ Below W.heap.size W w') := fun W o' c' S h hs => Lib.hid ((readMates_any _ _ (N - fm) c' n n nm _ _ W h (by omega) hs hn (sgY_sg _ _) HZ.out hnm).mono (by
      rintro e w' ⟨(⟨hk, he, hr⟩ | ⟨hk, he⟩), hb⟩
      · exact absurd (hk.symm.trans hbad) (by decide)
      · exact ⟨he, hb⟩))
  have HC1 : Hid (RB wC (some ⟨b, off + fm, none⟩) (N - fm) (decMates xs n)) := Lib.hid (rb_mates HRB1.out (by omega) (by omega))
  have HC0 : Hid (c = fm → RB wC (some ⟨b, off, none⟩) (N - fm) (decMates xs n)) := Lib.hid fun e => ⟨HC1.out.1, fun h => absurd h (by omega)⟩
  have HHN := Lib.hid hn
  have HFM := Lib.hid hfm
  have HNB := Lib.hid hnb
  have HM2 := Lib.hid hm2
  have HNM := Lib.hid hnm
  clear hnm hn hfm hnb hm2 hlp hen' hen h2 l0 l1
  go_wp2_with ((first | (go_at_call 52; ((with_reducible refine (CB _).out.mono ?_); rintro e w1 ⟨rfl, rfl⟩)) | (go_at_call 53; ((with_reducible refine (CBt _ _ _ (by first | with_reducible exact HB1.out | exact HB0.out (by omega))).out.mono ?_); rintro e w2 ⟨r, rfl, hr, hS, hb2⟩; rw [hu] at hr; subst hr; have HX2 := Lib.hid (HX1.out.kp hb2); have r0 := HX2.out.1.1; have r1 := HX2.out.1.2.1; have r2 := HX2.out.1.2.2.1; have g0 := HX2.out.2 0; have g1 := HX2.out.2 1; have g2 := HX2.out.2 2)) | (go_at_call 54; ((with_reducible refine (CMt _ _ _ _ (by first | with_reducible exact HC1.out.keep hb2 | exact (HC0.out (by omega)).keep hb2) hS).out.mono ?_); rintro e w3 ⟨rfl, hb3⟩; have HX3 := Lib.hid (HX2.out.kp hb3); have r0 := HX3.out.1.1; have r1 := HX3.out.1.2.1; have r2 := HX3.out.1.2.2.1; have g0 := HX3.out.2 0; have g1 := HX3.out.2 1; have g2 := HX3.out.2 2))))
  all_goals
    obtain ⟨k0, k1, k2⟩ := set3p_cells HX3.out (.slice none 0 0) (.slice none 0 0) (.int .i64 0)
    exact bodyPost_ret (v := .tuple #[dval none 0 0 none 0 0 0, .int .i64 3]) (by simp [results, Tryd.results21, go_sem, k0, k1, k2]) rfl ⟨rfl, set3p_below (below_step (below_step hb1 hb2) hb3) (Nat.le_refl _) _ _ _⟩
set_option maxHeartbeats 6400000 in
set_option maxRecDepth 100000 in
theorem decode_yes (A : Option Addr) (N c : Nat) (xs : List Int) (w : World) (hA : RB w A N xs) (hx : byteL xs) (h2 : 2 ≤ N) (hc : N ≤ c) (hn : yN xs 0 ≤ 64) (hlp : yN xs 1 ≤ 64) (hf : N = decEnd (yN xs 0)) (hu : unY (decBits xs (yN xs 0)) (yN xs 0) = false) (hok : (msK (sgY (decBits xs (yN xs 0)) (yN xs 0)) (yN (decMates xs (yN xs 0))) (4 * yN xs 0) (4 * yN xs 0)).ok = true) (hv : validB (sgY (decBits xs (yN xs 0)) (yN xs 0)) (lnM (4 * yN xs 0) (msK (sgY (decBits xs (yN xs 0)) (yN xs 0)) (yN (decMates xs (yN xs 0))) (4 * yN xs 0) (4 * yN xs 0)).M) (yN xs 1) = true) : Calls Tryd.prog 21 #[.slice A N c] w fun e w' => (∃ A B : Option Addr, e = .returned (.tuple #[dval A (yN xs 0) (yN xs 0) B (4 * yN xs 0) (4 * yN xs 0) (yN xs 1), .int .i64 0]) ∧ RI w' A (yN xs 0) (sgY (decBits xs (yN xs 0)) (yN xs 0)) ∧ RI w' B (4 * yN xs 0) (lnM (4 * yN xs 0) (msK (sgY (decBits xs (yN xs 0)) (yN xs 0)) (yN (decMates xs (yN xs 0))) (4 * yN xs 0) (4 * yN xs 0)).M)) ∧ Below w.heap.size w w' := by
  have hb0 := below_alloc w (.cells #[.slice none 0 0, .slice none 0 0, .int .i64 0] 24)
  have HX := Lib.hid (BxP.new w)
  have HRB := Lib.hid (hA.keep hb0)
  obtain ⟨b, off, rfl, hbb, hcc⟩ := (hA.keep hb0).2 (by omega)
  have q0 := hcc 0 (by omega)
  have q1 := hcc 1 (by omega)
  rw [Nat.add_zero, (yN_cast hx 0).1] at q0
  rw [(yN_cast hx 1).1] at q1
  have l0 := (yN_cast hx 0).2
  have l1 := (yN_cast hx 1).2
  clear hcc hA hbb
  generalize yN xs 0 = n at *
  generalize yN xs 1 = lp at *
  have h20 : ¬ ((N : Int) < 2) := by omega
  have h21 : (0 : Int) < (N : Int) := by omega
  have h22 : (1 : Int) < (N : Int) := by omega
  have wn : IntKind.i64.wrap (n : Int) = (n : Int) := IntWalk.i64_in _ (by omega)
  have wl : IntKind.i64.wrap (lp : Int) = (lp : Int) := IntWalk.i64_in _ (by omega)
  obtain ⟨nb, hnb⟩ : ∃ nb, (n + 7) / 8 = nb := ⟨_, rfl⟩
  have CB := fun W => Lib.hid (bytesOf_any n (by omega) W)
  simp only [hnb] at CB
  obtain ⟨fm, hfm⟩ : ∃ fm, 2 + nb = fm := ⟨_, rfl⟩
  obtain ⟨m2, hm2⟩ : ∃ m2, 2 * n = m2 := ⟨_, rfl⟩
  obtain ⟨en, hen⟩ : ∃ en, fm + m2 = en := ⟨_, rfl⟩
  have w1 : IntKind.i64.wrap (2 + (nb : Int)) = (fm : Int) := by rw [IntWalk.i64_in _ (by omega)]; omega
  have w2 : IntKind.i64.wrap (2 * (n : Int)) = (m2 : Int) := by rw [IntWalk.i64_in _ (by omega)]; omega
  have w3 : IntKind.i64.wrap ((fm : Int) + (m2 : Int)) = (en : Int) := by rw [IntWalk.i64_in _ (by omega)]; omega
  have hen' : decEnd n = en := by unfold decEnd; omega
  rw [hen'] at hf
  subst hf
  have hfc : (fm : Int) ≤ (c : Int) := by omega
  have hfN : (fm : Int) ≤ (N : Int) := by omega
  have hf2 : (2 : Int) ≤ (fm : Int) := by omega
  have hfl : (n : Int) ≤ 64 := by omega
  have hfl2 : (lp : Int) ≤ 64 := by omega
  obtain ⟨nm, hnm⟩ : ∃ nm, nm = 4 * n := ⟨_, rfl⟩
  rw [← hnm] at hok hv ⊢
  have HR : Hid (∀ j, j < nm → -9223372036854775808 ≤ mt (lnM nm (msK (sgY (decBits xs n) n) (yN (decMates xs n)) nm nm).M) j ∧ mt (lnM nm (msK (sgY (decBits xs n) n) (yN (decMates xs n)) nm nm).M) j ≤ 9223372036854775807) := Lib.hid (ln_range (msK_inv _ (Nat.le_refl _) hok).2.1 (by omega))
  generalize hmm : lnM nm (msK (sgY (decBits xs n) n) (yN (decMates xs n)) nm nm).M = mm at *
  go_enter Tryd.func21, Tryd.ntmps21
  go_upto_region 3 with fail
  generalize w.alloc (.cells #[.slice none 0 0, .slice none 0 0, .int .i64 0] 24) = wB at *
  obtain ⟨r0, r1, r2, rlt⟩ := HX.out.1
  have g0 := HX.out.2 0
  have g1 := HX.out.2 1
  have g2 := HX.out.2 2
  go_wp2
  go_region
  have hb1 := below_drew1 hb0
  have HX1 := Lib.hid (HX.out.kp (below_drew0 wB))
  have HRB1 := Lib.hid (HRB.out.keep (below_drew0 wB))
  clear hb0 HX HRB r0 r1 r2 rlt g0 g1 g2 q0 q1
  generalize wB.drew = wC at *
  have HY : Hid (byteL (decBits xs n)) := Lib.hid (byteL_bits hx n)
  have CBt : ∀ W o' c', RB W (some ⟨b, o', none⟩) (fm - 2) (decBits xs n) → Hid (Calls Tryd.prog 53 #[.slice (some ⟨b, o', none⟩) (fm - 2) c', .int .i64 (n : Nat)] W fun e w' => ∃ r : Bool, e = .returned (.tuple #[.slice (some ⟨W.heap.size, 0, none⟩) n n, .bool r]) ∧ r = !(unY (decBits xs n) n) ∧ RI w' (some ⟨W.heap.size, 0, none⟩) n (sgY (decBits xs n) n) ∧ Below W.heap.size W w') := fun W o' c' h => Lib.hid (readBits_any _ _ c' n _ W h (by omega) hn HY.out)
  have HB1 : Hid (RB wC (some ⟨b, off + 2, none⟩) (fm - 2) (decBits xs n)) := Lib.hid (by have := rb_bits HRB1.out (n := n) (by omega); rwa [show (n + 7) / 8 = fm - 2 by omega] at this)
  have HB0 : Hid (c = 2 → RB wC (some ⟨b, off, none⟩) (fm - 2) (decBits xs n)) := Lib.hid fun e => ⟨HB1.out.1, fun h => absurd h (by omega)⟩
  have HZ : Hid (byteL (decMates xs n)) := Lib.hid (byteL_mates hx n)
  have CMt : ∀ W o' c' S, RB W (some ⟨b, o', none⟩) (N - fm) (decMates xs n) → RI W S n (sgY (decBits xs n) n) → Hid (Calls Tryd.prog 54 #[.slice (some ⟨b, o', none⟩) (N - fm) c', .slice S n n] W fun e w' => e = .returned (.tuple #[.slice (some ⟨W.heap.size, 0, none⟩) nm nm, .bool true]) ∧ RI w' (some ⟨W.heap.size, 0, none⟩) nm mm ∧ Below W.heap.size W w') := fun W o' c' S h hs => Lib.hid ((readMates_any _ _ (N - fm) c' n n nm _ _ W h (by omega) hs hn (sgY_sg _ _) HZ.out hnm).mono (by
      rintro e w' ⟨(⟨hk, he, hr⟩ | ⟨hk, he⟩), hb⟩
      · rw [hmm] at hr; exact ⟨he, hr, hb⟩
      · exact absurd (hk.symm.trans hok) (by decide)))
  have HC1 : Hid (RB wC (some ⟨b, off + fm, none⟩) (N - fm) (decMates xs n)) := Lib.hid (rb_mates HRB1.out (by omega) (by omega))
  have HC0 : Hid (c = fm → RB wC (some ⟨b, off, none⟩) (N - fm) (decMates xs n)) := Lib.hid fun e => ⟨HC1.out.1, fun h => absurd h (by omega)⟩
  have CDt : ∀ W A B, DV W A n B nm (sgY (decBits xs n) n) mm → Hid (Calls Tryd.prog 41 #[.slice A n n, .slice B nm nm, .int .i64 lp] W fun e w' => e = .returned (.tuple #[dval A n n B nm nm lp, .int .i64 0]) ∧ Below W.heap.size W w') := fun W A B h => Lib.hid (drawn_yes A B n n nm nm lp _ _ W h hv)
  unfold dval at CDt
  have HN1 : Hid (n ≤ 100000000000000 ∧ nm ≤ 100000000000000) := Lib.hid ⟨by omega, by omega⟩
  have HHN := Lib.hid hn
  have HFM := Lib.hid hfm
  have HNB := Lib.hid hnb
  have HM2 := Lib.hid hm2
  have HNM := Lib.hid hnm
  clear hnm hn hfm hnb hm2 hlp hen' hen h2 l0 l1
  go_wp2_with ((first | (go_at_call 52; ((with_reducible refine (CB _).out.mono ?_); rintro e w1 ⟨rfl, rfl⟩)) | (go_at_call 53; ((with_reducible refine (CBt _ _ _ (by first | with_reducible exact HB1.out | exact HB0.out (by omega))).out.mono ?_); rintro e w2 ⟨r, rfl, hr, hS, hb2⟩; rw [hu] at hr; subst hr; have HX2 := Lib.hid (HX1.out.kp hb2); skip)) | (go_at_call 54; ((with_reducible refine (CMt _ _ _ _ (by first | with_reducible exact HC1.out.keep hb2 | exact (HC0.out (by omega)).keep hb2) hS).out.mono ?_); rintro e w3 ⟨rfl, hM, hb3⟩; have HX3 := Lib.hid (HX2.out.kp hb3); skip)) | (go_at_call 41; ((with_reducible refine (CDt _ _ _ ⟨hS.keep hb3, hM, HN1.out.1, HN1.out.2, HR.out⟩).out.mono ?_); rintro e w4 ⟨rfl, hb4⟩; have HX4 := Lib.hid (HX3.out.kp hb4); have r0 := HX4.out.1.1; have r1 := HX4.out.1.2.1; have r2 := HX4.out.1.2.2.1; have g0 := HX4.out.2 0; have g1 := HX4.out.2 1; have g2 := HX4.out.2 2))))
  all_goals
    have hlt := HX1.out.1.2.2.2
    have hlt2 : w.heap.size < w2.heap.size := Nat.lt_of_lt_of_le hlt hb2.size
    obtain ⟨k0, k1, k2⟩ := set3p_cells HX4.out (.slice (some ⟨wC.heap.size, 0, none⟩) n n) (.slice (some ⟨w2.heap.size, 0, none⟩) nm nm) (.int .i64 lp)
    exact bodyPost_ret (v := .tuple #[dval (some ⟨wC.heap.size, 0, none⟩) n n (some ⟨w2.heap.size, 0, none⟩) nm nm lp, .int .i64 0]) (by simp [results, Tryd.results21, go_sem, k0, k1, k2]) rfl ⟨⟨_, _, rfl, ((hS.keep hb3).keep hb4).set3p (fun _ => ⟨_, _, rfl, by omega⟩) _ _ _, (hM.keep hb4).set3p (fun _ => ⟨_, _, rfl, by omega⟩) _ _ _⟩, set3p_below (below_step (below_step (below_step hb1 hb2) hb3) hb4) (Nat.le_refl _) _ _ _⟩
set_option maxHeartbeats 6400000 in
set_option maxRecDepth 100000 in
theorem decode_no (A : Option Addr) (N c : Nat) (xs : List Int) (w : World) (hA : RB w A N xs) (hx : byteL xs) (h2 : 2 ≤ N) (hc : N ≤ c) (hn : yN xs 0 ≤ 64) (hlp : yN xs 1 ≤ 64) (hf : N = decEnd (yN xs 0)) (hu : unY (decBits xs (yN xs 0)) (yN xs 0) = false) (hok : (msK (sgY (decBits xs (yN xs 0)) (yN xs 0)) (yN (decMates xs (yN xs 0))) (4 * yN xs 0) (4 * yN xs 0)).ok = true) (hv : validB (sgY (decBits xs (yN xs 0)) (yN xs 0)) (lnM (4 * yN xs 0) (msK (sgY (decBits xs (yN xs 0)) (yN xs 0)) (yN (decMates xs (yN xs 0))) (4 * yN xs 0) (4 * yN xs 0)).M) (yN xs 1) = false) : Calls Tryd.prog 21 #[.slice A N c] w fun e w' => e = .returned (.tuple #[dval none 0 0 none 0 0 0, .int .i64 7]) ∧ Below w.heap.size w w' := by
  have hb0 := below_alloc w (.cells #[.slice none 0 0, .slice none 0 0, .int .i64 0] 24)
  have HX := Lib.hid (BxP.new w)
  have HRB := Lib.hid (hA.keep hb0)
  obtain ⟨b, off, rfl, hbb, hcc⟩ := (hA.keep hb0).2 (by omega)
  have q0 := hcc 0 (by omega)
  have q1 := hcc 1 (by omega)
  rw [Nat.add_zero, (yN_cast hx 0).1] at q0
  rw [(yN_cast hx 1).1] at q1
  have l0 := (yN_cast hx 0).2
  have l1 := (yN_cast hx 1).2
  clear hcc hA hbb
  generalize yN xs 0 = n at *
  generalize yN xs 1 = lp at *
  have h20 : ¬ ((N : Int) < 2) := by omega
  have h21 : (0 : Int) < (N : Int) := by omega
  have h22 : (1 : Int) < (N : Int) := by omega
  have wn : IntKind.i64.wrap (n : Int) = (n : Int) := IntWalk.i64_in _ (by omega)
  have wl : IntKind.i64.wrap (lp : Int) = (lp : Int) := IntWalk.i64_in _ (by omega)
  obtain ⟨nb, hnb⟩ : ∃ nb, (n + 7) / 8 = nb := ⟨_, rfl⟩
  have CB := fun W => Lib.hid (bytesOf_any n (by omega) W)
  simp only [hnb] at CB
  obtain ⟨fm, hfm⟩ : ∃ fm, 2 + nb = fm := ⟨_, rfl⟩
  obtain ⟨m2, hm2⟩ : ∃ m2, 2 * n = m2 := ⟨_, rfl⟩
  obtain ⟨en, hen⟩ : ∃ en, fm + m2 = en := ⟨_, rfl⟩
  have w1 : IntKind.i64.wrap (2 + (nb : Int)) = (fm : Int) := by rw [IntWalk.i64_in _ (by omega)]; omega
  have w2 : IntKind.i64.wrap (2 * (n : Int)) = (m2 : Int) := by rw [IntWalk.i64_in _ (by omega)]; omega
  have w3 : IntKind.i64.wrap ((fm : Int) + (m2 : Int)) = (en : Int) := by rw [IntWalk.i64_in _ (by omega)]; omega
  have hen' : decEnd n = en := by unfold decEnd; omega
  rw [hen'] at hf
  subst hf
  have hfc : (fm : Int) ≤ (c : Int) := by omega
  have hfN : (fm : Int) ≤ (N : Int) := by omega
  have hf2 : (2 : Int) ≤ (fm : Int) := by omega
  have hfl : (n : Int) ≤ 64 := by omega
  have hfl2 : (lp : Int) ≤ 64 := by omega
  obtain ⟨nm, hnm⟩ : ∃ nm, nm = 4 * n := ⟨_, rfl⟩
  rw [← hnm] at hok hv
  have HR : Hid (∀ j, j < nm → -9223372036854775808 ≤ mt (lnM nm (msK (sgY (decBits xs n) n) (yN (decMates xs n)) nm nm).M) j ∧ mt (lnM nm (msK (sgY (decBits xs n) n) (yN (decMates xs n)) nm nm).M) j ≤ 9223372036854775807) := Lib.hid (ln_range (msK_inv _ (Nat.le_refl _) hok).2.1 (by omega))
  generalize hmm : lnM nm (msK (sgY (decBits xs n) n) (yN (decMates xs n)) nm nm).M = mm at *
  go_enter Tryd.func21, Tryd.ntmps21
  go_upto_region 3 with fail
  generalize w.alloc (.cells #[.slice none 0 0, .slice none 0 0, .int .i64 0] 24) = wB at *
  obtain ⟨r0, r1, r2, rlt⟩ := HX.out.1
  have g0 := HX.out.2 0
  have g1 := HX.out.2 1
  have g2 := HX.out.2 2
  go_wp2
  go_region
  have hb1 := below_drew1 hb0
  have HX1 := Lib.hid (HX.out.kp (below_drew0 wB))
  have HRB1 := Lib.hid (HRB.out.keep (below_drew0 wB))
  clear hb0 HX HRB r0 r1 r2 rlt g0 g1 g2 q0 q1
  generalize wB.drew = wC at *
  have HY : Hid (byteL (decBits xs n)) := Lib.hid (byteL_bits hx n)
  have CBt : ∀ W o' c', RB W (some ⟨b, o', none⟩) (fm - 2) (decBits xs n) → Hid (Calls Tryd.prog 53 #[.slice (some ⟨b, o', none⟩) (fm - 2) c', .int .i64 (n : Nat)] W fun e w' => ∃ r : Bool, e = .returned (.tuple #[.slice (some ⟨W.heap.size, 0, none⟩) n n, .bool r]) ∧ r = !(unY (decBits xs n) n) ∧ RI w' (some ⟨W.heap.size, 0, none⟩) n (sgY (decBits xs n) n) ∧ Below W.heap.size W w') := fun W o' c' h => Lib.hid (readBits_any _ _ c' n _ W h (by omega) hn HY.out)
  have HB1 : Hid (RB wC (some ⟨b, off + 2, none⟩) (fm - 2) (decBits xs n)) := Lib.hid (by have := rb_bits HRB1.out (n := n) (by omega); rwa [show (n + 7) / 8 = fm - 2 by omega] at this)
  have HB0 : Hid (c = 2 → RB wC (some ⟨b, off, none⟩) (fm - 2) (decBits xs n)) := Lib.hid fun e => ⟨HB1.out.1, fun h => absurd h (by omega)⟩
  have HZ : Hid (byteL (decMates xs n)) := Lib.hid (byteL_mates hx n)
  have CMt : ∀ W o' c' S, RB W (some ⟨b, o', none⟩) (N - fm) (decMates xs n) → RI W S n (sgY (decBits xs n) n) → Hid (Calls Tryd.prog 54 #[.slice (some ⟨b, o', none⟩) (N - fm) c', .slice S n n] W fun e w' => e = .returned (.tuple #[.slice (some ⟨W.heap.size, 0, none⟩) nm nm, .bool true]) ∧ RI w' (some ⟨W.heap.size, 0, none⟩) nm mm ∧ Below W.heap.size W w') := fun W o' c' S h hs => Lib.hid ((readMates_any _ _ (N - fm) c' n n nm _ _ W h (by omega) hs hn (sgY_sg _ _) HZ.out hnm).mono (by
      rintro e w' ⟨(⟨hk, he, hr⟩ | ⟨hk, he⟩), hb⟩
      · rw [hmm] at hr; exact ⟨he, hr, hb⟩
      · exact absurd (hk.symm.trans hok) (by decide)))
  have HC1 : Hid (RB wC (some ⟨b, off + fm, none⟩) (N - fm) (decMates xs n)) := Lib.hid (rb_mates HRB1.out (by omega) (by omega))
  have HC0 : Hid (c = fm → RB wC (some ⟨b, off, none⟩) (N - fm) (decMates xs n)) := Lib.hid fun e => ⟨HC1.out.1, fun h => absurd h (by omega)⟩
  have CDt : ∀ W A B, DV W A n B nm (sgY (decBits xs n) n) mm → Hid (Calls Tryd.prog 41 #[.slice A n n, .slice B nm nm, .int .i64 lp] W fun e w' => e = .returned (.tuple #[dval none 0 0 none 0 0 0, .int .i64 7]) ∧ Below W.heap.size W w') := fun W A B h => Lib.hid (drawn_no A B n n nm nm lp _ _ W h hv)
  unfold dval at CDt
  have HN1 : Hid (n ≤ 100000000000000 ∧ nm ≤ 100000000000000) := Lib.hid ⟨by omega, by omega⟩
  have HHN := Lib.hid hn
  have HFM := Lib.hid hfm
  have HNB := Lib.hid hnb
  have HM2 := Lib.hid hm2
  have HNM := Lib.hid hnm
  clear hnm hn hfm hnb hm2 hlp hen' hen h2 l0 l1
  go_wp2_with ((first | (go_at_call 52; ((with_reducible refine (CB _).out.mono ?_); rintro e w1 ⟨rfl, rfl⟩)) | (go_at_call 53; ((with_reducible refine (CBt _ _ _ (by first | with_reducible exact HB1.out | exact HB0.out (by omega))).out.mono ?_); rintro e w2 ⟨r, rfl, hr, hS, hb2⟩; rw [hu] at hr; subst hr; have HX2 := Lib.hid (HX1.out.kp hb2); skip)) | (go_at_call 54; ((with_reducible refine (CMt _ _ _ _ (by first | with_reducible exact HC1.out.keep hb2 | exact (HC0.out (by omega)).keep hb2) hS).out.mono ?_); rintro e w3 ⟨rfl, hM, hb3⟩; have HX3 := Lib.hid (HX2.out.kp hb3); skip)) | (go_at_call 41; ((with_reducible refine (CDt _ _ _ ⟨hS.keep hb3, hM, HN1.out.1, HN1.out.2, HR.out⟩).out.mono ?_); rintro e w4 ⟨rfl, hb4⟩; have HX4 := Lib.hid (HX3.out.kp hb4); have r0 := HX4.out.1.1; have r1 := HX4.out.1.2.1; have r2 := HX4.out.1.2.2.1; have g0 := HX4.out.2 0; have g1 := HX4.out.2 1; have g2 := HX4.out.2 2))))
  all_goals
    obtain ⟨k0, k1, k2⟩ := set3p_cells HX4.out (.slice none 0 0) (.slice none 0 0) (.int .i64 0)
    exact bodyPost_ret (v := .tuple #[dval none 0 0 none 0 0 0, .int .i64 7]) (by simp [results, Tryd.results21, go_sem, k0, k1, k2]) rfl ⟨rfl, set3p_below (below_step (below_step (below_step hb1 hb2) hb3) hb4) (Nat.le_refl _) _ _ _⟩

end Go.Proofs.YtebliaclleplgaaDoor

/- Decode of any bytes. -/
namespace Go.Proofs.YtebliaclleplgaaDoor
open Go.ChangeShapes Go.WideShapes Go.ChangeAt Go.RowKit Go.Joins

theorem decode_any (A : Option Addr) (N c : Nat) (xs : List Int) (w : World) (hA : RB w A N xs) (hx : byteL xs) (hc : N ≤ c) : Calls Tryd.prog 21 #[.slice A N c] w (DcPost (decM xs) w) := by
  have hl := hA.1
  by_cases h2 : N < 2
  · exact (decode_short A N c w h2).mono fun e w' ⟨he, hb⟩ => by subst he; exact dc_none _ 4 (by unfold decM; rw [if_pos (by omega)]) hb
  have e1 : ¬ xs.length < 2 := by omega
  by_cases hf : 64 < yN xs 0 ∨ 64 < yN xs 1
  · exact (decode_full A N c xs w hA hx (by omega) hf).mono fun e w' ⟨he, hb⟩ => by subst he; exact dc_none _ 5 (by unfold decM; rw [if_neg e1, if_pos hf]) hb
  by_cases hs : N < decEnd (yN xs 0)
  · exact (decode_short' A N c xs w hA hx (by omega) (by omega) (by omega) hs).mono fun e w' ⟨he, hb⟩ => by subst he; exact dc_none _ 4 (by unfold decM; rw [if_neg e1, if_neg hf, if_pos (by omega)]) hb
  by_cases hg : decEnd (yN xs 0) < N
  · exact (decode_long' A N c xs w hA hx (by omega) (by omega) (by omega) hg).mono fun e w' ⟨he, hb⟩ => by subst he; exact dc_none _ 3 (by unfold decM; rw [if_neg e1, if_neg hf, if_neg (by omega), if_pos (by omega)]) hb
  have e2 : ¬ xs.length < decEnd (yN xs 0) := by omega
  have e3 : ¬ decEnd (yN xs 0) < xs.length := by omega
  by_cases hu : unY (decBits xs (yN xs 0)) (yN xs 0) = true
  · exact (decode_unused A N c xs w hA hx (by omega) hc (by omega) (by omega) (by omega) hu).mono fun e w' ⟨he, hb⟩ => by subst he; exact dc_none _ 3 (by unfold decM; rw [if_neg e1, if_neg hf, if_neg e2, if_neg e3, if_pos hu]) hb
  by_cases hm : (msK (sgY (decBits xs (yN xs 0)) (yN xs 0)) (yN (decMates xs (yN xs 0))) (4 * yN xs 0) (4 * yN xs 0)).ok = false
  · exact (decode_mates A N c xs w hA hx (by omega) hc (by omega) (by omega) (by omega) (Bool.eq_false_iff.2 hu) hm).mono fun e w' ⟨he, hb⟩ => by subst he; exact dc_none _ 3 (by unfold decM; rw [if_neg e1, if_neg hf, if_neg e2, if_neg e3, if_neg hu, if_pos hm]) hb
  have hm' : (msK (sgY (decBits xs (yN xs 0)) (yN xs 0)) (yN (decMates xs (yN xs 0))) (4 * yN xs 0) (4 * yN xs 0)).ok = true := by cases e : (msK (sgY (decBits xs (yN xs 0)) (yN xs 0)) (yN (decMates xs (yN xs 0))) (4 * yN xs 0) (4 * yN xs 0)).ok with
    | true => rfl
    | false => exact absurd e hm
  by_cases hv : validB (sgY (decBits xs (yN xs 0)) (yN xs 0)) (lnM (4 * yN xs 0) (msK (sgY (decBits xs (yN xs 0)) (yN xs 0)) (yN (decMates xs (yN xs 0))) (4 * yN xs 0) (4 * yN xs 0)).M) (yN xs 1) = true
  · refine (decode_yes A N c xs w hA hx (by omega) hc (by omega) (by omega) (by omega) (Bool.eq_false_iff.2 hu) hm' hv).mono fun e w' ⟨⟨P, Q, he, hP, hQ⟩, hb⟩ => ?_
    have ed : decM xs = ⟨0, sgY (decBits xs (yN xs 0)) (yN xs 0), lnM (4 * yN xs 0) (msK (sgY (decBits xs (yN xs 0)) (yN xs 0)) (yN (decMates xs (yN xs 0))) (4 * yN xs 0) (4 * yN xs 0)).M, yN xs 1⟩ := by unfold decM; rw [if_neg e1, if_neg hf, if_neg e2, if_neg e3, if_neg hu, if_neg hm, if_pos hv]
    rw [ed]
    exact ⟨P, _, _, Q, _, _, he, hP, hQ, hb⟩
  · exact (decode_no A N c xs w hA hx (by omega) hc (by omega) (by omega) (by omega) (Bool.eq_false_iff.2 hu) hm' (Bool.eq_false_iff.2 hv)).mono fun e w' ⟨he, hb⟩ => by subst he; exact dc_none _ 7 (by unfold decM; rw [if_neg e1, if_neg hf, if_neg e2, if_neg e3, if_neg hu, if_neg hm, if_neg hv]) hb

end Go.Proofs.YtebliaclleplgaaDoor
