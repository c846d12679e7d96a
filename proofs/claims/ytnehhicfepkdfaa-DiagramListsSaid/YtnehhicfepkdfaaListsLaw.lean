/- For every diagram and every number the law DiagramLists returns true, and its arguments read afterwards as before. No condition. -/
import Derived.Test.YtnehhicfepkdfaaComp
import Derived.Test.YtnehhicfepkdfaaGreat
namespace Go.Proofs.Ytnehhicfepkdfaa
open Go.ChangeShapes Go.WideShapes Go.ChangeAt Go.RowKit Go.Joins

theorem OI.shape {w : World} {B : Nat} {v : Value} {xs : List Int} (h : OI w B v xs) : ∃ A c, v = .slice A xs.length c ∧ RI w A xs.length xs := by
  rcases h.form with ⟨rfl, e⟩ | ⟨g, cap, e, _⟩
  · subst e; exact ⟨none, 0, rfl, RI.nil _ _⟩
  · subst e; exact ⟨_, cap, rfl, h.ri⟩
theorem per_le {f : Nat → Nat} {N : Nat} (p : Perm f N) {h : Nat} (hh : h < N) : per f N h ≤ N := by
  exact (p.per_spec hh).2.1
theorem cycL_inner {f : Nat → Nat} {N : Nat} (p : Perm f N) (q : Nat → Bool) (hN : N ≤ 256) (j : Nat) : ((cycL f N q N).getD j []).length ≤ 1000000000000000 := by
  rcases Nat.lt_or_ge j (cycL f N q N).length with hj | hj
  · have : (cycL f N q N).getD j [] ∈ cycL f N q N := by
      have e : (cycL f N q N).getD j [] = (cycL f N q N)[j] := by simp [List.getD, hj]
      rw [e]; exact List.getElem_mem _
    obtain ⟨h, hh, e⟩ := List.mem_map.1 this
    rw [← e, itl_length]
    have hlt : h < N := by
      have := (List.mem_filter.1 hh).1
      simpa using this
    have := per_le p hlt
    omega
  · have e : (cycL f N q N).getD j [] = [] := by simp [List.getD, List.getElem?_eq_none hj]
    rw [e]; simp
theorem graphL_inner (F : Nat → Nat) (c : Nat) (hc : c ≤ 256) (j : Nat) : ((graphL F c).getD j []).length ≤ 1000000000000000 := by
  rcases Nat.lt_or_ge j (graphL F c).length with hj | hj
  · have : (graphL F c).getD j [] ∈ graphL F c := by
      have e : (graphL F c).getD j [] = (graphL F c)[j] := by simp [List.getD, hj]
      rw [e]; exact List.getElem_mem _
    obtain ⟨l, hl, e⟩ := List.mem_map.1 this
    rw [← e]
    have := memb_length F c l
    omega
  · have e : (graphL F c).getD j [] = [] := by simp [List.getD, List.getElem?_eq_none hj]
    rw [e]; simp
def SameLists (xss : List (List Int)) : Prop := ∀ (A A' : Option Addr) (c c' : Nat) (w : World), RO w A xss.length xss → RO w A' xss.length xss →
  Calls Try.prog 31 #[.slice A xss.length c, .slice A' xss.length c'] w fun e w' => e = .returned (.bool true) ∧ Below w.heap.size w w'
theorem sameLists (xss : List (List Int)) (h1 : xss.length ≤ 1000000000000000) (h2 : ∀ j, (xss.getD j []).length ≤ 1000000000000000) : SameLists xss := fun A A' c c' w k1 k2 =>
  lists_r true A A' xss.length c xss.length c' xss xss w k1 k2 h1 h1 (fun j _ => h2 j) (fun j _ => h2 j) (by simp)

/-- What the law's calls answer on a readable diagram that is valid. -/
structure LC (w : World) (A B : Option Addr) (ns cs nm cm : Nat) (lp : Int) (signs mate : List Int) : Prop where
  rf : ∀ W, Below w.heap.size w W → Calls Try.prog 32 #[.slice B nm cm] W (CycsPost W (facesM signs mate lp))
  rg : ∀ W, Below w.heap.size w W → Calls Try.prog 33 #[.slice B nm cm] W (CycsPost W (graphM signs mate lp))
  rs : ∀ W, Below w.heap.size w W → Calls Try.prog 34 #[dval A ns cs B nm cm lp] W (CycsPost W (strandsM signs mate lp))
  sf : SameLists (facesM signs mate lp)
  sg : SameLists (graphM signs mate lp)
  ss : SameLists (strandsM signs mate lp)
  rc : ∀ W, Below w.heap.size w W → Calls Try.prog 35 #[dval A ns cs B nm cm lp] W fun e w' => e = .returned (.int .i64 (compM signs mate lp)) ∧ Below W.heap.size W w'
  ri : ∀ x, 0 ≤ x → x < (nm : Int) → ∀ W, Below w.heap.size w W → Calls Try.prog 30 #[.slice B nm cm, .int .i64 x] W (CycPost W (faceM signs mate lp x))
  fl : ∀ x, (faceM signs mate lp x).length ≤ 256
theorem LC.mk' {w : World} {A B : Option Addr} {ns nm : Nat} {signs mate : List Int} (h : DV w A ns B nm signs mate) (cs cm : Nat) (lp : Int) (hv : validB signs mate lp = true) : LC w A B ns cs nm cm lp signs mate := by
  have hls := h.hs.1
  have hlm := h.hm.1
  obtain ⟨v1, v2, v3, v4⟩ := validB_out hv
  have hcl := out_closed v2 v3 hlm hls
  rw [hls, hlm] at v1
  obtain ⟨l1, l2, l3, l4⟩ := limB_out v1
  have HM := matesOf_mates v3 hlm
  have HI := matesOf_invol v3 hlm
  have hP3 : Perm (ff (matesOf mate)) nm := by rw [l2] at HI ⊢; exact HI.perm 3
  have hP2 : Perm (fs (matesOf mate)) nm := by rw [l2] at HI ⊢; exact HI.perm 2
  have eF : facesM signs mate lp = cycL (ff (matesOf mate)) nm (fun _ => true) nm := by simp [facesM, hv, hlm]
  have eS : strandsM signs mate lp = cycL (fs (matesOf mate)) nm (outB signs) nm := by simp [strandsM, hv, hlm]
  have eG : graphM signs mate lp = graphL (ufLab (matesOf mate) nm) ns := by simp [graphM, hv, hls, labM, hlm]
  have hnm : nm ≤ 256 := by omega
  refine ⟨?_, ?_, ?_, ?_, ?_, ?_, ?_, ?_, ?_⟩
  · intro W hb; rw [eF]; exact rfaces_any B nm cm mate (matesOf mate) W (h.hm.keep hb) HM hP3 hnm
  · intro W hb; rw [eG]; exact rgraph_any B nm cm ns mate (matesOf mate) W (h.hm.keep hb) HM l2 hnm
  · intro W hb; rw [eS]; exact rstrands_any A B ns cs nm cm lp signs mate (matesOf mate) W (h.hs.keep hb) l2 (h.hm.keep hb) HM hP2 hnm (hcl l2)
  · rw [eF]; exact sameLists _ (by have := cycL_length (ff (matesOf mate)) nm (fun _ => true) nm; omega) (cycL_inner hP3 _ hnm)
  · rw [eG]; exact sameLists _ (by have := graphL_length (ufLab (matesOf mate) nm) ns; have := roots_length (ufLab (matesOf mate) nm) ns; omega) (graphL_inner _ _ (by omega))
  · rw [eS]; exact sameLists _ (by have := cycL_length (fs (matesOf mate)) nm (outB signs) nm; omega) (cycL_inner hP2 _ hnm)
  · intro W hb; exact rcomponents_any A B ns cs nm cm lp signs mate W (h.keep hb) hv
  · intro x h0 h1 W hb
    obtain ⟨k, rfl⟩ := Int.eq_ofNat_of_zero_le h0
    have e : faceM signs mate lp (k : Int) = itl (ff (matesOf mate)) k (per (ff (matesOf mate)) nm k) := by unfold faceM; rw [hlm, if_pos ⟨hv, h0, h1⟩]; simp
    rw [e]
    exact rface_any B nm cm k mate (matesOf mate) W (h.hm.keep hb) HM hP3 (by omega) hnm _ rfl
  · intro x
    unfold faceM
    split
    · rename_i hx
      rw [itl_length, hlm]
      have := per_le hP3 (h := x.toNat) (by omega)
      omega
    · simp

theorem noLists {signs mate : List Int} {lp : Int} (x : Int) (hv : validB signs mate lp = false) : faceM signs mate lp x = [] ∧ facesM signs mate lp = [] ∧ graphM signs mate lp = [] ∧ strandsM signs mate lp = [] ∧ compM signs mate lp = 0 := by
  refine ⟨?_, ?_, ?_, ?_, ?_⟩
  · simp [faceM, hv]
  · simp [facesM, hv]
  · simp [graphM, hv]
  · simp [strandsM, hv]
  · simp [compM, hv]

set_option maxHeartbeats 12800000 in
set_option maxRecDepth 100000 in
theorem lists_walk (A B : Option Addr) (ns cs nm cm : Nat) (lp x : Int) (signs mate : List Int) (w : World) (hs : RI w A ns signs) (hm : RI w B nm mate) (hns : ns ≤ 9223372036854775807) (hnm : nm ≤ 9223372036854775807) (hmI : ∀ z ∈ mate, inI z) (hx : inI x) :
    Calls Try.prog 5 #[dval A ns cs B nm cm lp, .int .i64 x] w fun e w' => e = .returned (.bool true) ∧ Below w.heap.size w w' := by
  have hd := DB.new w A ns cs B nm cm lp
  have hb0 := below_alloc w (dbox A ns cs B nm cm lp)
  go_enter Try.func5, Try.ntmps5
  go_wp2_with fail
  refine (awake_any _).mono ?_
  rintro e w1 ⟨rfl, hb1⟩
  have hd1 := hd.keep hb1
  have hw1 := below_step hb0 hb1
  clear hd hb0 hb1
  unfold inI at hx
  obtain ⟨hx0, hx1⟩ := hx
  cases hg : grB ns nm with
  | true =>
    have CG := Lib.hid (great_big A B ns cs nm cm lp w1 hns hnm true hg)
    obtain ⟨d0, d1, d2, dlt⟩ := hd1
    clear hg hs hm hmI
    go_wp2_with (go_at_call 12; ((with_reducible refine CG.out.mono ?_); rintro e w2 ⟨rfl, hb2⟩))
    go_ret
    exact ⟨rfl, below_step hw1 hb2⟩
  | false =>
    have H := Lib.hid (DV.mk' (hs.keep hw1) (hm.keep hw1) hmI hg)
    have CG := Lib.hid (great_big A B ns cs nm cm lp w1 hns hnm false hg)
    obtain ⟨g1, g2⟩ := grB_out hg
    have HD := Lib.hid hd1
    obtain ⟨d0, d1, d2, dlt⟩ := hd1
    clear hg hs hm hmI hns hnm
    go_upto_region 5 with (go_at_call 12; ((with_reducible refine CG.out.mono ?_); rintro e w2 ⟨rfl, hb2⟩))
    have hwF := below_step hw1 hb2
    have hd2 := HD.out.keep hb2
    have H2 := Lib.hid (H.out.keep hb2)
    clear HD H CG hw1 hb2 d0 d1 d2 dlt
    obtain ⟨e0, e1, e2, elt⟩ := hd2
    have CF : ∀ W : World, Below w2.heap.size w2 W → Hid (Calls Try.prog 24 #[dval A ns cs B nm cm lp, .int .i64 x] W (CycPost W (faceM signs mate lp x))) := fun W hb => face_any A B ns cs nm cm lp x signs mate W (H2.out.keep hb) hx0 hx1
    have CA : ∀ W : World, Below w2.heap.size w2 W → Hid (Calls Try.prog 25 #[dval A ns cs B nm cm lp] W (CycsPost W (facesM signs mate lp))) := fun W hb => faces_any A B ns cs nm cm lp signs mate W (H2.out.keep hb)
    have CGr : ∀ W : World, Below w2.heap.size w2 W → Hid (Calls Try.prog 26 #[dval A ns cs B nm cm lp] W (CycsPost W (graphM signs mate lp))) := fun W hb => graph_any A B ns cs nm cm lp signs mate W (H2.out.keep hb)
    have CS : ∀ W : World, Below w2.heap.size w2 W → Hid (Calls Try.prog 27 #[dval A ns cs B nm cm lp] W (CycsPost W (strandsM signs mate lp))) := fun W hb => strands_any A B ns cs nm cm lp signs mate W (H2.out.keep hb)
    have CC : ∀ W : World, Below w2.heap.size w2 W → Hid (Calls Try.prog 28 #[dval A ns cs B nm cm lp] W fun e w' => e = .returned (.int .i64 (compM signs mate lp)) ∧ Below W.heap.size W w') := fun W hb => components_any A B ns cs nm cm lp signs mate W (H2.out.keep hb)
    have CV : ∀ (r : Bool), validB signs mate lp = r → ∀ W : World, Below w2.heap.size w2 W → Hid (Calls Try.prog 17 #[dval A ns cs B nm cm lp] W fun e w' => e = .returned (.bool r) ∧ Below W.heap.size W w') := fun r hr W hb => (H2.out.keep hb).rvalid cs cm lp r hr
    have hLC : validB signs mate lp = true → LC w2 A B ns cs nm cm lp signs mate := fun hv => LC.mk' H2.out cs cm lp hv
    have hNL := noLists (signs := signs) (mate := mate) (lp := lp) x
    have HLC := Lib.hid hLC
    have HNL := Lib.hid hNL
    have HLMX := Lib.hid H2.out.hm.1
    clear hLC hNL H2
    have hbD : Below w2.heap.size w2 w2.drew := (Below.refl _ _).drew
    go_region_held3 (fun w' => w'.cell? ⟨w.heap.size, 0, none⟩ = some (.slice A ns cs) ∧ w'.cell? ⟨w.heap.size, 1, none⟩ = some (.slice B nm cm) ∧ w'.cell? ⟨w.heap.size, 2, none⟩ = some (.int .i64 lp))
      (first
        | go_keep
        | exact ⟨(t4.cell (p := ⟨w.heap.size, 0, none⟩) elt).trans e0, (t4.cell (p := ⟨w.heap.size, 1, none⟩) elt).trans e1, (t4.cell (p := ⟨w.heap.size, 2, none⟩) elt).trans e2⟩
        | exact ⟨(t3.cell (p := ⟨w.heap.size, 0, none⟩) elt).trans e0, (t3.cell (p := ⟨w.heap.size, 1, none⟩) elt).trans e1, (t3.cell (p := ⟨w.heap.size, 2, none⟩) elt).trans e2⟩
        | exact ⟨(t2.cell (p := ⟨w.heap.size, 0, none⟩) elt).trans e0, (t2.cell (p := ⟨w.heap.size, 1, none⟩) elt).trans e1, (t2.cell (p := ⟨w.heap.size, 2, none⟩) elt).trans e2⟩
        | exact ⟨(t1.cell (p := ⟨w.heap.size, 0, none⟩) elt).trans e0, (t1.cell (p := ⟨w.heap.size, 1, none⟩) elt).trans e1, (t1.cell (p := ⟨w.heap.size, 2, none⟩) elt).trans e2⟩)
      (first
        | (go_at_call 24; ((with_reducible refine (CF _ hbD).out.mono ?_); rintro e u1 ⟨v1, rfl, ho1, hc1⟩; have t1 := below_step hbD hc1; obtain ⟨A1, c1, rfl, r1⟩ := ho1.shape; clear ho1))
        | (go_at_call 25; ((with_reducible refine (CA _ t1).out.mono ?_); rintro e u2 ⟨v2, rfl, ho2, hc2⟩; have t2 := below_step t1 hc2; obtain ⟨A2, c2, rfl, r2⟩ := ho2.ro; clear ho2))
        | (go_at_call 26; ((with_reducible refine (CGr _ t2).out.mono ?_); rintro e u3 ⟨v3, rfl, ho3, hc3⟩; have t3 := below_step t2 hc3; obtain ⟨A3, c3, rfl, r3⟩ := ho3.ro; clear ho3))
        | (go_at_call 27; ((with_reducible refine (CS _ t3).out.mono ?_); rintro e u4 ⟨v4, rfl, ho4, hc4⟩; have t4 := below_step t3 hc4; obtain ⟨A4, c4, rfl, r4⟩ := ho4.ro; clear ho4)))
    have q1 := ((r1.keep hc2).keep hc3).keep hc4
    have q2 := (r2.keep hc3).keep hc4
    have q3 := r3.keep hc4
    clear r1 r2 r3 hc1 hc2 hc3 t1 t2 t3 CF CA CGr CS hc4
    have k0 := (t4.cell (p := ⟨w.heap.size, 0, none⟩) elt).trans e0
    have k1 := (t4.cell (p := ⟨w.heap.size, 1, none⟩) elt).trans e1
    have k2 := (t4.cell (p := ⟨w.heap.size, 2, none⟩) elt).trans e2
    have klt := Nat.lt_of_lt_of_le elt t4.size
    clear e0 e1 e2
    cases hv : validB signs mate lp with
    | false =>
      obtain ⟨n1, n2, n3, n4, n5⟩ := HNL.out hv
      rw [n1] at q1
      rw [n2] at q2
      rw [n3] at q3
      rw [n4] at r4
      rw [n5] at CC
      rw [n1, n2, n3, n4]
      have CVF := Lib.hid (CV false hv)
      clear HLC HNL CV q1 q2 q3 r4 hv n1 n2 n3 n4 n5
      go_wp2_with (first
        | (go_at_call 17; ((with_reducible refine (CVF.out _ t4).out.mono ?_); rintro e w3 ⟨rfl, hb3⟩; have f0 := (hb3.cell (p := ⟨w.heap.size, 0, none⟩) klt).trans k0; have f1 := (hb3.cell (p := ⟨w.heap.size, 1, none⟩) klt).trans k1; have f2 := (hb3.cell (p := ⟨w.heap.size, 2, none⟩) klt).trans k2))
        | (go_at_call 28; ((with_reducible refine (CC _ (below_step t4 hb3)).out.mono ?_); rintro e w4 ⟨rfl, hb4⟩)))
      go_ret
      exact ⟨rfl, below_step hwF (below_step (below_step t4 hb3) hb4)⟩
    | true =>
      have L := HLC.out hv
      have CVT := Lib.hid (CV true hv)
      clear HLC HNL CV
      have CRF : ∀ W : World, Below w2.heap.size w2 W → Hid (Calls Try.prog 32 #[.slice B nm cm] W (CycsPost W (facesM signs mate lp))) := fun W hb => L.rf W hb
      have CRG : ∀ W : World, Below w2.heap.size w2 W → Hid (Calls Try.prog 33 #[.slice B nm cm] W (CycsPost W (graphM signs mate lp))) := fun W hb => L.rg W hb
      have CRS : ∀ W : World, Below w2.heap.size w2 W → Hid (Calls Try.prog 34 #[dval A ns cs B nm cm lp] W (CycsPost W (strandsM signs mate lp))) := fun W hb => L.rs W hb
      have CRC : ∀ W : World, Below w2.heap.size w2 W → Hid (Calls Try.prog 35 #[dval A ns cs B nm cm lp] W fun e w' => e = .returned (.int .i64 (compM signs mate lp)) ∧ Below W.heap.size W w') := fun W hb => L.rc W hb
      have SF : ∀ (P P' : Option Addr) (c c' : Nat) (W : World), RO W P (facesM signs mate lp).length (facesM signs mate lp) → RO W P' (facesM signs mate lp).length (facesM signs mate lp) → Hid (Calls Try.prog 31 #[.slice P (facesM signs mate lp).length c, .slice P' (facesM signs mate lp).length c'] W fun e w' => e = .returned (.bool true) ∧ Below W.heap.size W w') := fun P P' c c' W k1 k2 => L.sf P P' c c' W k1 k2
      have SG : ∀ (P P' : Option Addr) (c c' : Nat) (W : World), RO W P (graphM signs mate lp).length (graphM signs mate lp) → RO W P' (graphM signs mate lp).length (graphM signs mate lp) → Hid (Calls Try.prog 31 #[.slice P (graphM signs mate lp).length c, .slice P' (graphM signs mate lp).length c'] W fun e w' => e = .returned (.bool true) ∧ Below W.heap.size W w') := fun P P' c c' W k1 k2 => L.sg P P' c c' W k1 k2
      have SS : ∀ (P P' : Option Addr) (c c' : Nat) (W : World), RO W P (strandsM signs mate lp).length (strandsM signs mate lp) → RO W P' (strandsM signs mate lp).length (strandsM signs mate lp) → Hid (Calls Try.prog 31 #[.slice P (strandsM signs mate lp).length c, .slice P' (strandsM signs mate lp).length c'] W fun e w' => e = .returned (.bool true) ∧ Below W.heap.size W w') := fun P P' c c' W k1 k2 => L.ss P P' c c' W k1 k2
      have RIF := Lib.hid (L.ri x)
      have FL := L.fl x
      have hFM : (0 ≤ x ∧ x < (nm : Int)) ∨ (¬ (0 ≤ x ∧ x < (nm : Int)) ∧ faceM signs mate lp x = []) := by
        by_cases h : 0 ≤ x ∧ x < (nm : Int)
        · exact .inl h
        · exact .inr ⟨h, by unfold faceM; rw [if_neg]; intro k; exact h ⟨k.2.1, by have := k.2.2; rw [HLMX.out] at this; exact this⟩⟩
      clear L hv
      generalize facesM signs mate lp = Am at *
      generalize graphM signs mate lp = Gm at *
      generalize strandsM signs mate lp = Sm at *
      generalize compM signs mate lp = Cm at *
      generalize faceM signs mate lp x = Fm at *
      rcases hFM with ⟨h0, h1⟩ | ⟨hNE, hF0⟩
      · have hd0 : decide (x < 0) = false := by simp only [decide_eq_false_iff_not]; omega
        have hd1 : decide ((nm : Int) ≤ x) = false := by simp only [decide_eq_false_iff_not]; omega
        have CI : ∀ W : World, Below w2.heap.size w2 W → Hid (Calls Try.prog 30 #[.slice B nm cm, .int .i64 x] W (CycPost W Fm)) := fun W hb => RIF.out h0 h1 W hb
        have CQ : ∀ (A A' : Option Addr) (c c' : Nat) (W : World), RI W A Fm.length Fm → RI W A' Fm.length Fm → Hid (Calls Try.prog 29 #[.slice A Fm.length c, .slice A' Fm.length c'] W fun e w' => e = .returned (.bool true) ∧ Below W.heap.size W w') := fun A A' c c' W k1 k2 => ints_r true A A' _ c _ c' Fm Fm W k1 k2 (by omega) (by omega) (by simp)
        clear h0 h1
        go_upto_region 13 with (first
          | (go_at_call 17; ((with_reducible refine (CVT.out _ t4).out.mono ?_); rintro e w3 ⟨rfl, hb3⟩; have f0 := (hb3.cell (p := ⟨w.heap.size, 0, none⟩) klt).trans k0; have f1 := (hb3.cell (p := ⟨w.heap.size, 1, none⟩) klt).trans k1; have f2 := (hb3.cell (p := ⟨w.heap.size, 2, none⟩) klt).trans k2; have flt := Nat.lt_of_lt_of_le klt hb3.size; have hb4 := Below.refl w3.heap.size w3; clear hb4))
          | (go_at_call 30; ((with_reducible refine (CI _ (below_step t4 hb3)).out.mono ?_); rintro e w4 ⟨v9, rfl, ho9, hb9⟩; obtain ⟨A9, c9, rfl, r9⟩ := ho9.shape; have q9 := (q1.keep hb3).keep hb9; clear ho9))
          | (go_at_call 29; ((with_reducible refine (CQ A1 A9 c1 c9 _ q9 r9).out.mono ?_); rintro e w5 ⟨rfl, hb10⟩; have hb4 := below_step hb9 hb10)))
        have p2 := q2.keep (below_step hb3 hb4)
        have p3 := q3.keep (below_step hb3 hb4)
        have p4 := r4.keep (below_step hb3 hb4)
        have tt := below_step t4 (below_step hb3 hb4)
        have j0 := (hb4.cell (p := ⟨w.heap.size, 0, none⟩) flt).trans f0
        have j1 := (hb4.cell (p := ⟨w.heap.size, 1, none⟩) flt).trans f1
        have j2 := (hb4.cell (p := ⟨w.heap.size, 2, none⟩) flt).trans f2
        have jlt := Nat.lt_of_lt_of_le flt hb4.size
        clear q1 q2 q3 r4 k0 k1 k2 klt f0 f1 f2 flt hb3 CVT FL RIF
        generalize w5 = wZ at *
        have z0 : Below wZ.heap.size wZ wZ.drew := (Below.refl _ _).drew
        go_region_held3 (fun w' => w'.cell? ⟨w.heap.size, 0, none⟩ = some (.slice A ns cs) ∧ w'.cell? ⟨w.heap.size, 1, none⟩ = some (.slice B nm cm) ∧ w'.cell? ⟨w.heap.size, 2, none⟩ = some (.int .i64 lp))
          (first
            | go_keep
            | exact ⟨(z8.cell (p := ⟨w.heap.size, 0, none⟩) jlt).trans j0, (z8.cell (p := ⟨w.heap.size, 1, none⟩) jlt).trans j1, (z8.cell (p := ⟨w.heap.size, 2, none⟩) jlt).trans j2⟩
            | exact ⟨(z7.cell (p := ⟨w.heap.size, 0, none⟩) jlt).trans j0, (z7.cell (p := ⟨w.heap.size, 1, none⟩) jlt).trans j1, (z7.cell (p := ⟨w.heap.size, 2, none⟩) jlt).trans j2⟩
            | exact ⟨(z6.cell (p := ⟨w.heap.size, 0, none⟩) jlt).trans j0, (z6.cell (p := ⟨w.heap.size, 1, none⟩) jlt).trans j1, (z6.cell (p := ⟨w.heap.size, 2, none⟩) jlt).trans j2⟩
            | exact ⟨(z5.cell (p := ⟨w.heap.size, 0, none⟩) jlt).trans j0, (z5.cell (p := ⟨w.heap.size, 1, none⟩) jlt).trans j1, (z5.cell (p := ⟨w.heap.size, 2, none⟩) jlt).trans j2⟩
            | exact ⟨(z4.cell (p := ⟨w.heap.size, 0, none⟩) jlt).trans j0, (z4.cell (p := ⟨w.heap.size, 1, none⟩) jlt).trans j1, (z4.cell (p := ⟨w.heap.size, 2, none⟩) jlt).trans j2⟩
            | exact ⟨(z3.cell (p := ⟨w.heap.size, 0, none⟩) jlt).trans j0, (z3.cell (p := ⟨w.heap.size, 1, none⟩) jlt).trans j1, (z3.cell (p := ⟨w.heap.size, 2, none⟩) jlt).trans j2⟩
            | exact ⟨(z2.cell (p := ⟨w.heap.size, 0, none⟩) jlt).trans j0, (z2.cell (p := ⟨w.heap.size, 1, none⟩) jlt).trans j1, (z2.cell (p := ⟨w.heap.size, 2, none⟩) jlt).trans j2⟩
            | exact ⟨(z1.cell (p := ⟨w.heap.size, 0, none⟩) jlt).trans j0, (z1.cell (p := ⟨w.heap.size, 1, none⟩) jlt).trans j1, (z1.cell (p := ⟨w.heap.size, 2, none⟩) jlt).trans j2⟩)
          (first
            | (go_at_call 32; ((with_reducible refine (CRF _ (below_step tt z0)).out.mono ?_); rintro e y1 ⟨v1, rfl, ho1, hc1⟩; have z1 := below_step z0 hc1; obtain ⟨B1, b1, rfl, s1⟩ := ho1.ro; have p2' := p2.keep z1; clear ho1))
            | (go_at_call 31; ((with_reducible refine (SF A2 B1 c2 b1 _ p2' s1).out.mono ?_); rintro e y2 ⟨rfl, hc2⟩; have z2 := below_step z1 hc2))
            | (go_at_call 33; ((with_reducible refine (CRG _ (below_step tt z2)).out.mono ?_); rintro e y3 ⟨v3, rfl, ho3, hc3⟩; have z3 := below_step z2 hc3; obtain ⟨B3, b3, rfl, s3⟩ := ho3.ro; have p3' := p3.keep z3; clear ho3))
            | (go_at_call 31; ((with_reducible refine (SG A3 B3 c3 b3 _ p3' s3).out.mono ?_); rintro e y4 ⟨rfl, hc4⟩; have z4 := below_step z3 hc4))
            | (go_at_call 34; ((with_reducible refine (CRS _ (below_step tt z4)).out.mono ?_); rintro e y5 ⟨v5, rfl, ho5, hc5⟩; have z5 := below_step z4 hc5; obtain ⟨B5, b5, rfl, s5⟩ := ho5.ro; have p4' := p4.keep z5; clear ho5))
            | (go_at_call 31; ((with_reducible refine (SS A4 B5 c4 b5 _ p4' s5).out.mono ?_); rintro e y6 ⟨rfl, hc6⟩; have z6 := below_step z5 hc6))
            | (go_at_call 28; ((with_reducible refine (CC _ (below_step tt z6)).out.mono ?_); rintro e y7 ⟨rfl, hc7⟩; have z7 := below_step z6 hc7))
            | (go_at_call 35; ((with_reducible refine (CRC _ (below_step tt z7)).out.mono ?_); rintro e y8 ⟨rfl, hc8⟩; have z8 := below_step z7 hc8)))
        go_wp2
        go_ret
        exact ⟨rfl, below_step hwF (below_step tt z8)⟩
      · subst hF0
        by_cases h0 : x < 0
        · have hd0 : decide (x < 0) = true := by simp [h0]
          clear h0
          go_upto_region 13 with (first
            | (go_at_call 17; ((with_reducible refine (CVT.out _ t4).out.mono ?_); rintro e w3 ⟨rfl, hb3⟩; have f0 := (hb3.cell (p := ⟨w.heap.size, 0, none⟩) klt).trans k0; have f1 := (hb3.cell (p := ⟨w.heap.size, 1, none⟩) klt).trans k1; have f2 := (hb3.cell (p := ⟨w.heap.size, 2, none⟩) klt).trans k2; have flt := Nat.lt_of_lt_of_le klt hb3.size; have hb4 := Below.refl w3.heap.size w3)))
          have p2 := q2.keep (below_step hb3 hb4)
          have p3 := q3.keep (below_step hb3 hb4)
          have p4 := r4.keep (below_step hb3 hb4)
          have tt := below_step t4 (below_step hb3 hb4)
          have j0 := (hb4.cell (p := ⟨w.heap.size, 0, none⟩) flt).trans f0
          have j1 := (hb4.cell (p := ⟨w.heap.size, 1, none⟩) flt).trans f1
          have j2 := (hb4.cell (p := ⟨w.heap.size, 2, none⟩) flt).trans f2
          have jlt := Nat.lt_of_lt_of_le flt hb4.size
          clear q1 q2 q3 r4 k0 k1 k2 klt f0 f1 f2 flt hb3 CVT FL RIF
          generalize w3 = wZ at *
          have z0 : Below wZ.heap.size wZ wZ.drew := (Below.refl _ _).drew
          go_region_held3 (fun w' => w'.cell? ⟨w.heap.size, 0, none⟩ = some (.slice A ns cs) ∧ w'.cell? ⟨w.heap.size, 1, none⟩ = some (.slice B nm cm) ∧ w'.cell? ⟨w.heap.size, 2, none⟩ = some (.int .i64 lp))
            (first
              | go_keep
              | exact ⟨(z8.cell (p := ⟨w.heap.size, 0, none⟩) jlt).trans j0, (z8.cell (p := ⟨w.heap.size, 1, none⟩) jlt).trans j1, (z8.cell (p := ⟨w.heap.size, 2, none⟩) jlt).trans j2⟩
              | exact ⟨(z7.cell (p := ⟨w.heap.size, 0, none⟩) jlt).trans j0, (z7.cell (p := ⟨w.heap.size, 1, none⟩) jlt).trans j1, (z7.cell (p := ⟨w.heap.size, 2, none⟩) jlt).trans j2⟩
              | exact ⟨(z6.cell (p := ⟨w.heap.size, 0, none⟩) jlt).trans j0, (z6.cell (p := ⟨w.heap.size, 1, none⟩) jlt).trans j1, (z6.cell (p := ⟨w.heap.size, 2, none⟩) jlt).trans j2⟩
              | exact ⟨(z5.cell (p := ⟨w.heap.size, 0, none⟩) jlt).trans j0, (z5.cell (p := ⟨w.heap.size, 1, none⟩) jlt).trans j1, (z5.cell (p := ⟨w.heap.size, 2, none⟩) jlt).trans j2⟩
              | exact ⟨(z4.cell (p := ⟨w.heap.size, 0, none⟩) jlt).trans j0, (z4.cell (p := ⟨w.heap.size, 1, none⟩) jlt).trans j1, (z4.cell (p := ⟨w.heap.size, 2, none⟩) jlt).trans j2⟩
              | exact ⟨(z3.cell (p := ⟨w.heap.size, 0, none⟩) jlt).trans j0, (z3.cell (p := ⟨w.heap.size, 1, none⟩) jlt).trans j1, (z3.cell (p := ⟨w.heap.size, 2, none⟩) jlt).trans j2⟩
              | exact ⟨(z2.cell (p := ⟨w.heap.size, 0, none⟩) jlt).trans j0, (z2.cell (p := ⟨w.heap.size, 1, none⟩) jlt).trans j1, (z2.cell (p := ⟨w.heap.size, 2, none⟩) jlt).trans j2⟩
              | exact ⟨(z1.cell (p := ⟨w.heap.size, 0, none⟩) jlt).trans j0, (z1.cell (p := ⟨w.heap.size, 1, none⟩) jlt).trans j1, (z1.cell (p := ⟨w.heap.size, 2, none⟩) jlt).trans j2⟩)
            (first
              | (go_at_call 32; ((with_reducible refine (CRF _ (below_step tt z0)).out.mono ?_); rintro e y1 ⟨v1, rfl, ho1, hc1⟩; have z1 := below_step z0 hc1; obtain ⟨B1, b1, rfl, s1⟩ := ho1.ro; have p2' := p2.keep z1; clear ho1))
              | (go_at_call 31; ((with_reducible refine (SF A2 B1 c2 b1 _ p2' s1).out.mono ?_); rintro e y2 ⟨rfl, hc2⟩; have z2 := below_step z1 hc2))
              | (go_at_call 33; ((with_reducible refine (CRG _ (below_step tt z2)).out.mono ?_); rintro e y3 ⟨v3, rfl, ho3, hc3⟩; have z3 := below_step z2 hc3; obtain ⟨B3, b3, rfl, s3⟩ := ho3.ro; have p3' := p3.keep z3; clear ho3))
              | (go_at_call 31; ((with_reducible refine (SG A3 B3 c3 b3 _ p3' s3).out.mono ?_); rintro e y4 ⟨rfl, hc4⟩; have z4 := below_step z3 hc4))
              | (go_at_call 34; ((with_reducible refine (CRS _ (below_step tt z4)).out.mono ?_); rintro e y5 ⟨v5, rfl, ho5, hc5⟩; have z5 := below_step z4 hc5; obtain ⟨B5, b5, rfl, s5⟩ := ho5.ro; have p4' := p4.keep z5; clear ho5))
              | (go_at_call 31; ((with_reducible refine (SS A4 B5 c4 b5 _ p4' s5).out.mono ?_); rintro e y6 ⟨rfl, hc6⟩; have z6 := below_step z5 hc6))
              | (go_at_call 28; ((with_reducible refine (CC _ (below_step tt z6)).out.mono ?_); rintro e y7 ⟨rfl, hc7⟩; have z7 := below_step z6 hc7))
              | (go_at_call 35; ((with_reducible refine (CRC _ (below_step tt z7)).out.mono ?_); rintro e y8 ⟨rfl, hc8⟩; have z8 := below_step z7 hc8)))
          go_wp2
          go_ret
          exact ⟨rfl, below_step hwF (below_step tt z8)⟩
        · have hd0 : decide (x < 0) = false := by simp [h0]
          by_cases h1 : (nm : Int) ≤ x
          · have hd1 : decide ((nm : Int) ≤ x) = true := by simp [h1]
            clear h0 h1
            go_upto_region 13 with (first
              | (go_at_call 17; ((with_reducible refine (CVT.out _ t4).out.mono ?_); rintro e w3 ⟨rfl, hb3⟩; have f0 := (hb3.cell (p := ⟨w.heap.size, 0, none⟩) klt).trans k0; have f1 := (hb3.cell (p := ⟨w.heap.size, 1, none⟩) klt).trans k1; have f2 := (hb3.cell (p := ⟨w.heap.size, 2, none⟩) klt).trans k2; have flt := Nat.lt_of_lt_of_le klt hb3.size; have hb4 := Below.refl w3.heap.size w3)))
            have p2 := q2.keep (below_step hb3 hb4)
            have p3 := q3.keep (below_step hb3 hb4)
            have p4 := r4.keep (below_step hb3 hb4)
            have tt := below_step t4 (below_step hb3 hb4)
            have j0 := (hb4.cell (p := ⟨w.heap.size, 0, none⟩) flt).trans f0
            have j1 := (hb4.cell (p := ⟨w.heap.size, 1, none⟩) flt).trans f1
            have j2 := (hb4.cell (p := ⟨w.heap.size, 2, none⟩) flt).trans f2
            have jlt := Nat.lt_of_lt_of_le flt hb4.size
            clear q1 q2 q3 r4 k0 k1 k2 klt f0 f1 f2 flt hb3 CVT FL RIF
            generalize w3 = wZ at *
            have z0 : Below wZ.heap.size wZ wZ.drew := (Below.refl _ _).drew
            go_region_held3 (fun w' => w'.cell? ⟨w.heap.size, 0, none⟩ = some (.slice A ns cs) ∧ w'.cell? ⟨w.heap.size, 1, none⟩ = some (.slice B nm cm) ∧ w'.cell? ⟨w.heap.size, 2, none⟩ = some (.int .i64 lp))
              (first
                | go_keep
                | exact ⟨(z8.cell (p := ⟨w.heap.size, 0, none⟩) jlt).trans j0, (z8.cell (p := ⟨w.heap.size, 1, none⟩) jlt).trans j1, (z8.cell (p := ⟨w.heap.size, 2, none⟩) jlt).trans j2⟩
                | exact ⟨(z7.cell (p := ⟨w.heap.size, 0, none⟩) jlt).trans j0, (z7.cell (p := ⟨w.heap.size, 1, none⟩) jlt).trans j1, (z7.cell (p := ⟨w.heap.size, 2, none⟩) jlt).trans j2⟩
                | exact ⟨(z6.cell (p := ⟨w.heap.size, 0, none⟩) jlt).trans j0, (z6.cell (p := ⟨w.heap.size, 1, none⟩) jlt).trans j1, (z6.cell (p := ⟨w.heap.size, 2, none⟩) jlt).trans j2⟩
                | exact ⟨(z5.cell (p := ⟨w.heap.size, 0, none⟩) jlt).trans j0, (z5.cell (p := ⟨w.heap.size, 1, none⟩) jlt).trans j1, (z5.cell (p := ⟨w.heap.size, 2, none⟩) jlt).trans j2⟩
                | exact ⟨(z4.cell (p := ⟨w.heap.size, 0, none⟩) jlt).trans j0, (z4.cell (p := ⟨w.heap.size, 1, none⟩) jlt).trans j1, (z4.cell (p := ⟨w.heap.size, 2, none⟩) jlt).trans j2⟩
                | exact ⟨(z3.cell (p := ⟨w.heap.size, 0, none⟩) jlt).trans j0, (z3.cell (p := ⟨w.heap.size, 1, none⟩) jlt).trans j1, (z3.cell (p := ⟨w.heap.size, 2, none⟩) jlt).trans j2⟩
                | exact ⟨(z2.cell (p := ⟨w.heap.size, 0, none⟩) jlt).trans j0, (z2.cell (p := ⟨w.heap.size, 1, none⟩) jlt).trans j1, (z2.cell (p := ⟨w.heap.size, 2, none⟩) jlt).trans j2⟩
                | exact ⟨(z1.cell (p := ⟨w.heap.size, 0, none⟩) jlt).trans j0, (z1.cell (p := ⟨w.heap.size, 1, none⟩) jlt).trans j1, (z1.cell (p := ⟨w.heap.size, 2, none⟩) jlt).trans j2⟩)
              (first
                | (go_at_call 32; ((with_reducible refine (CRF _ (below_step tt z0)).out.mono ?_); rintro e y1 ⟨v1, rfl, ho1, hc1⟩; have z1 := below_step z0 hc1; obtain ⟨B1, b1, rfl, s1⟩ := ho1.ro; have p2' := p2.keep z1; clear ho1))
                | (go_at_call 31; ((with_reducible refine (SF A2 B1 c2 b1 _ p2' s1).out.mono ?_); rintro e y2 ⟨rfl, hc2⟩; have z2 := below_step z1 hc2))
                | (go_at_call 33; ((with_reducible refine (CRG _ (below_step tt z2)).out.mono ?_); rintro e y3 ⟨v3, rfl, ho3, hc3⟩; have z3 := below_step z2 hc3; obtain ⟨B3, b3, rfl, s3⟩ := ho3.ro; have p3' := p3.keep z3; clear ho3))
                | (go_at_call 31; ((with_reducible refine (SG A3 B3 c3 b3 _ p3' s3).out.mono ?_); rintro e y4 ⟨rfl, hc4⟩; have z4 := below_step z3 hc4))
                | (go_at_call 34; ((with_reducible refine (CRS _ (below_step tt z4)).out.mono ?_); rintro e y5 ⟨v5, rfl, ho5, hc5⟩; have z5 := below_step z4 hc5; obtain ⟨B5, b5, rfl, s5⟩ := ho5.ro; have p4' := p4.keep z5; clear ho5))
                | (go_at_call 31; ((with_reducible refine (SS A4 B5 c4 b5 _ p4' s5).out.mono ?_); rintro e y6 ⟨rfl, hc6⟩; have z6 := below_step z5 hc6))
                | (go_at_call 28; ((with_reducible refine (CC _ (below_step tt z6)).out.mono ?_); rintro e y7 ⟨rfl, hc7⟩; have z7 := below_step z6 hc7))
                | (go_at_call 35; ((with_reducible refine (CRC _ (below_step tt z7)).out.mono ?_); rintro e y8 ⟨rfl, hc8⟩; have z8 := below_step z7 hc8)))
            go_wp2
            go_ret
            exact ⟨rfl, below_step hwF (below_step tt z8)⟩
          · exact absurd ⟨by omega, by omega⟩ hNE

end Go.Proofs.Ytnehhicfepkdfaa
