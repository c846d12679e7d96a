/- Walk: the law DiagramInvariant. -/
import Derived.Test.YtcllnoigppkjiaaRenumber
import Derived.Test.YtcllnoigppkjiaaRRen
import Derived.Test.YtcllnoigppkjiaaLengths
import Derived.Test.YtcllnoigppkjiaaComp
import Derived.Test.YtcllnoigppkjiaaFaces
import Derived.Test.YtcllnoigppkjiaaGraph
import Derived.Test.YtcllnoigppkjiaaEq
import Derived.Test.YtcllnoigppkjiaaGreat
import Derived.Test.YtcllnoigppkjiaaAwake
namespace Go.Proofs.Ytcllnoigppkjiaa
open Go.ChangeShapes Go.WideShapes Go.ChangeAt Go.RowKit Go.Joins

theorem cycL_in1 {f : Nat → Nat} {N : Nat} (p : Perm f N) (q : Nat → Bool) (hN : N ≤ 256) (j : Nat) : ((cycL f N q N).getD j []).length ≤ 1000 := by
  rcases Nat.lt_or_ge j (cycL f N q N).length with hj | hj
  · have : (cycL f N q N).getD j [] ∈ cycL f N q N := by
      have e : (cycL f N q N).getD j [] = (cycL f N q N)[j] := by simp [List.getD, hj]
      rw [e]; exact List.getElem_mem _
    obtain ⟨h, hh, e⟩ := List.mem_map.1 this
    rw [← e, itl_length]
    have hlt : h < N := by
      have := (List.mem_filter.1 hh).1
      simpa using this
    have := (p.per_spec hlt).2.1
    omega
  · have e : (cycL f N q N).getD j [] = [] := by simp [List.getD, List.getElem?_eq_none hj]
    rw [e]; simp
theorem graphL_in1 (F : Nat → Nat) (c : Nat) (hc : c ≤ 256) (j : Nat) : ((graphL F c).getD j []).length ≤ 1000 := by
  rcases Nat.lt_or_ge j (graphL F c).length with hj | hj
  · have : (graphL F c).getD j [] ∈ graphL F c := by
      have e : (graphL F c).getD j [] = (graphL F c)[j] := by simp [List.getD, hj]
      rw [e]; exact List.getElem_mem _
    obtain ⟨l, hl, e⟩ := List.mem_map.1 this
    rw [← e]
    have := memb_length F c l
    omega
  · have e : (graphL F c).getD j [] = [] := by simp [List.getD, List.getElem?_eq_none hj]
    rw [e]; simp
/-- A list of lists that is small. -/
def SmallL (xss : List (List Int)) : Prop := xss.length ≤ 256 ∧ ∀ j, (xss.getD j []).length ≤ 1000
theorem lists_small {signs mate : List Int} {lp : Int} {n : Nat} (hv : validB signs mate lp = true) (hl : signs.length = n) : SmallL (facesM signs mate lp) ∧ SmallL (strandsM signs mate lp) ∧ SmallL (graphM signs mate lp) := by
  obtain ⟨d1, d2, d3, _⟩ := ren_data hv hl
  have eF : facesM signs mate lp = cycL (ff (matesOf mate)) (4 * n) (fun _ => true) (4 * n) := by simp [facesM, hv, d1]
  have eS : strandsM signs mate lp = cycL (fs (matesOf mate)) (4 * n) (outB signs) (4 * n) := by simp [strandsM, hv, d1]
  have eG : graphM signs mate lp = graphL (labM mate) n := by simp [graphM, hv, hl]
  refine ⟨?_, ?_, ?_⟩
  · rw [eF]; exact ⟨by have := cycL_length (ff (matesOf mate)) (4 * n) (fun _ => true) (4 * n); omega, cycL_in1 (d2.perm 3) _ (by omega)⟩
  · rw [eS]; exact ⟨by have := cycL_length (fs (matesOf mate)) (4 * n) (outB signs) (4 * n); omega, cycL_in1 (d2.perm 2) _ (by omega)⟩
  · rw [eG]; exact ⟨by rw [graphL_length]; have := roots_length (labM mate) n; omega, graphL_in1 _ _ (by omega)⟩
theorem SmallL.len {xss yss : List (List Int)} (hx : SmallL xss) (hy : SmallL yss) (h : ∀ k, many xss k = many yss k) (A B : Option Addr) (c d : Nat) (W : World) (k1 : RO W A xss.length xss) (k2 : RO W B yss.length yss) :
    Hid (Calls Try.prog 39 #[.slice A xss.length c, .slice B yss.length d] W fun e w' => e = .returned (.bool true) ∧ Below W.heap.size W w') :=
  lengths_any A B _ c _ d xss yss W k1 k2 hx.1 hy.1 hx.2 hy.2 h

def backL (o : List Int) (n : Nat) : List Int := (List.range n).map fun c => (invN o n c : Int)
theorem backL_length (o : List Int) (n : Nat) : (backL o n).length = n := by simp [backL]
theorem backL_get {o : List Int} {n c : Nat} (h : c < n) : (backL o n).getD c 0 = (invN o n c : Int) := by simp [backL, List.getD, h]
theorem backL_ord {o : List Int} {n : Nat} (h : IsOrd o n) : ∀ i, i < n → (backL o n).getD (ordN o i) 0 = i := fun i hi => by
  rw [backL_get (ordN_cast h.2 hi).2, invN_ord h hi]

def RenOK2 (s m o : List Int) (lp : Int) (ns nm : Nat) (w : World) (e : Ending) (w' : World) : Prop :=
  ∃ P pc R rc, e = .returned (.tuple #[dval P ns pc R nm rc lp, .int .i64 0]) ∧ RI w' P ns (renS s o ns) ∧ RI w' R nm (renM (matesOf m) o ns) ∧ Below w.heap.size w w'
theorem renumber_ok (A B C : Option Addr) (ns cs nm cm no co : Nat) (lp : Int) (s m o : List Int) (w : World) (h : DV w A ns B nm s m) (ho : RI w C no o) (hns : ns ≤ 1000) (hno : no ≤ 1000) (hoI : ∀ j, j < no → -9223372036854775808 ≤ o.getD j 0 ∧ o.getD j 0 ≤ 9223372036854775807)
    (hv : validB s m lp = true) (hio : IsOrd o ns) : Calls Try.prog 36 #[dval A ns cs B nm cm lp, .slice C no co] w (RenOK2 s m o lp ns nm w) :=
  (renumber_any A B C ns cs nm cm no co lp s m o w h ho hns hno hoI).mono fun e w' hp => by
    obtain ⟨p1, ⟨p2, _⟩ | ⟨_, p2, _⟩ | ⟨_, _, P, pc, R, rc, p2, p3, p4⟩⟩ := hp
    · rw [hv] at p2; cases p2
    · exact absurd hio p2
    · exact ⟨P, pc, R, rc, p2, p3.ri, p4.ri, p1⟩
def RenNo (w : World) (e : Ending) (w' : World) : Prop := (∃ k : Int, 1 ≤ k ∧ k ≤ 2 ∧ e = .returned (.tuple #[dval none 0 0 none 0 0 0, .int .i64 k])) ∧ Below w.heap.size w w'
theorem renumber_no (A B C : Option Addr) (ns cs nm cm no co : Nat) (lp : Int) (s m o : List Int) (w : World) (h : DV w A ns B nm s m) (ho : RI w C no o) (hns : ns ≤ 1000) (hno : no ≤ 1000) (hoI : ∀ j, j < no → -9223372036854775808 ≤ o.getD j 0 ∧ o.getD j 0 ≤ 9223372036854775807)
    (hv : ¬ (validB s m lp = true ∧ IsOrd o ns)) : Calls Try.prog 36 #[dval A ns cs B nm cm lp, .slice C no co] w (RenNo w) :=
  (renumber_any A B C ns cs nm cm no co lp s m o w h ho hns hno hoI).mono fun e w' hp => by
    obtain ⟨p1, ⟨_, p3⟩ | ⟨_, _, p3⟩ | ⟨p2, p3, _⟩⟩ := hp
    · exact ⟨⟨1, by omega, by omega, p3⟩, p1⟩
    · exact ⟨⟨2, by omega, by omega, p3⟩, p1⟩
    · exact absurd ⟨p2, p3⟩ hv
theorem renM_range {m : Nat → Nat} {o : List Int} {n j : Nat} (h : IsOrd o n) (hm : ∀ x, x < 4 * n → m x < 4 * n) (hn : n ≤ 64) (hj : j < 4 * n) : 0 ≤ mt (renM m o n) j ∧ mt (renM m o n) j ≤ 1000 := by
  unfold mt
  rw [renM_get hj]
  have := newH_lt h (hm _ (wasH_lt h hj))
  omega

set_option maxHeartbeats 12800000 in
set_option maxRecDepth 100000 in
theorem invariant_walk (A B C : Option Addr) (ns cs nm cm no co : Nat) (lp : Int) (s m o : List Int) (w : World) (hs : RI w A ns s) (hm : RI w B nm m) (ho : RI w C no o) (hns : ns ≤ 9223372036854775807) (hnm : nm ≤ 9223372036854775807) (hno : no ≤ 9223372036854775807) (hmI : ∀ z ∈ m, inI z) (hoI : ∀ z ∈ o, inI z) :
    Calls Try.prog 9 #[dval A ns cs B nm cm lp, .slice C no co] w fun e w' => e = .returned (.bool true) ∧ Below w.heap.size w w' := by
  have hd := DB.new w A ns cs B nm cm lp
  have hb0 := below_alloc w (dbox A ns cs B nm cm lp)
  go_enter Try.func9, Try.ntmps9
  go_wp2_with fail
  refine (awake_any _).mono ?_
  rintro e w1 ⟨rfl, hb1⟩
  have hd1 := hd.keep hb1
  have hw1 := below_step hb0 hb1
  clear hd hb0 hb1
  have HD := Lib.hid hd1
  cases hg : grB ns nm with
  | true =>
    have CG := Lib.hid (great_big A B ns cs nm cm lp w1 hns hnm true hg)
    obtain ⟨d0, d1, d2, dlt⟩ := hd1
    clear hg hs hm hmI ho hoI
    go_wp2_with (go_at_call 12; ((with_reducible refine CG.out.mono ?_); rintro e w2 ⟨rfl, hb2⟩))
    go_ret
    exact ⟨rfl, below_step hw1 hb2⟩
  | false =>
    have CG := Lib.hid (great_big A B ns cs nm cm lp w1 hns hnm false hg)
    obtain ⟨b1, b2⟩ := grB_out hg
    have H := Lib.hid (DV.mk' (hs.keep hw1) (hm.keep hw1) hmI hg)
    have HO := Lib.hid (ho.keep hw1)
    obtain ⟨d0, d1, d2, dlt⟩ := hd1
    by_cases hbig : 100 < no
    · clear hg hs hm hmI hns hnm ho hoI
      go_wp2_with (go_at_call 12; ((with_reducible refine CG.out.mono ?_); rintro e w2 ⟨rfl, hb2⟩))
      go_ret
      exact ⟨rfl, below_step hw1 hb2⟩
    · have hn100 : no ≤ 100 := by omega
      have HOI : Hid (∀ j, j < no → -9223372036854775808 ≤ o.getD j 0 ∧ o.getD j 0 ≤ 9223372036854775807) := fun j hj => by
        have hl : j < o.length := by rw [HO.out.1]; exact hj
        exact hoI _ (getD_mem_int hl)
      clear hg hs hm hmI hns hnm ho hoI hbig hno
      by_cases hc : validB s m lp = true ∧ IsOrd o ns
      · obtain ⟨hv, hio⟩ := hc
        have CN : ∀ W : World, Below w1.heap.size w1 W → Hid (Calls Try.prog 36 #[dval A ns cs B nm cm lp, .slice C no co] W (RenOK2 s m o lp ns nm W)) := fun W hb =>
          renumber_ok A B C ns cs nm cm no co lp s m o W (H.out.keep hb) (HO.out.keep hb) (by omega) (by omega) HOI.out hv hio
        have HV := Lib.hid hv
        have HIO := Lib.hid hio
        have hls := H.out.hs.1
        have hlm := H.out.hm.1
        have hd' := ren_data hv hls
        have HRD := Lib.hid hd'
        have hn64 : ns ≤ 64 := hd'.2.2.1
        have hn4 : nm = 4 * ns := by rw [← hlm]; exact hd'.1
        have hno' : no = ns := by rw [← HO.out.1]; exact hio.1
        subst hno'
        have HN4 := Lib.hid hn4
        have HLS := Lib.hid hls
        have HLM := Lib.hid hlm
        have hmk := fun W => make_one (P := Try.prog) Try.underlying22 Try.infoInt rfl no (by omega) (by omega) W
        clear hv hio hls hlm hd' hn4
        go_upto_region 8 with (first
          | (go_at_call 12; ((with_reducible refine CG.out.mono ?_); rintro e w2 ⟨rfl, hb2⟩; have e0 := (hb2.cell (p := ⟨w.heap.size, 0, none⟩) dlt).trans d0; have e1 := (hb2.cell (p := ⟨w.heap.size, 1, none⟩) dlt).trans d1; have e2 := (hb2.cell (p := ⟨w.heap.size, 2, none⟩) dlt).trans d2; have elt := Nat.lt_of_lt_of_le dlt hb2.size))
          | (go_at_call 36; ((with_reducible refine (CN _ hb2).out.mono ?_); rintro e w3 ⟨P, pc, R, rc, rfl, oP, oR, hb3⟩; have hb3' := below_step hb3 (below_alloc w3 (dbox P no pc R nm rc lp)); have hb13 := below_step hb2 hb3'; have HX := Lib.hid (DB.new w3 P no pc R nm rc lp); have HP := Lib.hid (oP.keep (below_alloc w3 (dbox P no pc R nm rc lp))); have HR := Lib.hid (oR.keep (below_alloc w3 (dbox P no pc R nm rc lp))))))
        have hszX : (w3.alloc (dbox P no pc R nm rc lp)).heap.size = w3.heap.size + 1 := by simp
        obtain ⟨gB, hgB⟩ : ∃ g, w3.heap.size = g := ⟨_, rfl⟩
        rw [hgB] at HX hszX ⊢
        have HDX := Lib.hid (HD.out.keep hb13)
        have HHX := Lib.hid (H.out.keep hb13)
        have HOX := Lib.hid (HO.out.keep hb13)
        clear hb3' hb3 hb2 e0 e1 e2 elt d0 d1 d2 dlt CG CN oP oR HD H HO hgB
        generalize w3.alloc (dbox P no pc R nm rc lp) = wX at *
        have hA0 : Arr (wX.alloc (.cells (cellsN no fun _ => .int .i64 0) 3)) wX.heap.size 3 no (iv (atK o 0)) := (Arr.new wX no 3 (fun _ => .int .i64 0)).congr fun i _ => rfl
        have hbA := below_alloc wX (.cells (cellsN no fun _ => .int .i64 0) 3)
        obtain ⟨gM, hgM⟩ : ∃ g, gB + 1 = g := ⟨_, rfl⟩
        rw [hszX, hgM] at hA0
        have hgMX : wX.heap.size = gM := by rw [hszX, hgM]
        rw [hgMX] at hbA
        have HGM := Lib.hid hgMX
        have hgBM : gB < gM := by omega
        have hw1X : Below w.heap.size w wX := below_step hw1 hb13
        clear hszX hgMX
        clear hgM
        go_upto_region 9 with fail
        rw [HGM.out]
        generalize wX.alloc (.cells (cellsN no fun _ => .int .i64 0) 3) = wB at hA0 hbA ⊢
        go_wp2
        go_loopw [8, 9, 35] (fun _ _ i wr => ∃ k : Nat, k ≤ no ∧ i = .int .i64 k ∧ Below gM wX wr ∧ Arr wr gM 3 no (iv (atK o k))) (fun _ _ i _ => no - (intOf i).toNat)
        case atStart => exact ⟨0, by omega, rfl, hbA, hA0⟩
        case round =>
          obtain ⟨k, hk, rfl, hbr, hA⟩ := hrel
          have hk0 : (0 : Int) ≤ (k : Int) := Int.natCast_nonneg _
          have hbr' : Below wX.heap.size wX wr := by rw [HGM.out]; exact hbr
          by_cases hlt : k < no
          · obtain ⟨bc, oc, hCe, hbc, hcc⟩ := (HOX.out.keep hbr').2 (by omega)
            subst hCe
            obtain ⟨hc1, hc2⟩ := ordN_cast HIO.out.2 hlt
            have z0 := hcc k hlt
            rw [← hc1] at z0
            have hst : Arr (wr.setCell ⟨gM, ordN o k, none⟩ (.int .i64 (k : Nat))) gM 3 no (iv (atK o (k + 1))) := hA.seti (ordN o k) k
            have z1 : wr.cell? ⟨gM, ordN o k, none⟩ = some (.int .i64 (atK o k (ordN o k) : Nat)) := hA.cell _ hc2
            have z2 := hA.frozen (ordN o k)
            have HST := Lib.hid hst
            have hk1 : (k : Int) < (no : Int) := by omega
            clear hst hA hcc hc1
            generalize atK o k (ordN o k) = pv at *
            generalize ordN o k = x at *
            have hx0 : (0 : Int) ≤ (x : Int) := Int.natCast_nonneg _
            have hx1 : (x : Int) < (no : Int) := by omega
            go_wp2
            go_roundw
            case rel => exact ⟨k + 1, by omega, by go_num, below_set hbr (Nat.le_refl _) _, HST.out⟩
            case measure => simp [intOf]; omega
          · obtain rfl : no = k := by omega
            have hA1 : Arr wr gM 3 no (iv (invN o no)) := hA.congr fun i hi => by
              show Value.int .i64 ((atK o no i : Nat) : Int) = Value.int .i64 ((invN o no i : Nat) : Int)
              rw [atK_all HIO.out hi]
            have rB : RI wr (some ⟨gM, 0, none⟩) no (backL o no) := ⟨backL_length _ _, fun _ => ⟨gM, 0, rfl, hA1.lt, fun j hj => by
              rw [Nat.zero_add, hA1.cell j hj, backL_get hj]⟩⟩
            obtain ⟨wC, hwC⟩ : ∃ wC : World, wC = wr := ⟨_, rfl⟩
            subst hwC
            obtain ⟨y0, y1, y2, ylt⟩ := HX.out.keep hbr'
            obtain ⟨x0, x1, x2, xlt⟩ := HDX.out.keep hbr'
            have HV2 := Lib.hid (validB_ren HV.out HLS.out HIO.out)
            have HRB := Lib.hid (ren_ren HV.out HLS.out HIO.out (backL_length o no) (backL_ord HIO.out))
            have HIB := Lib.hid (ren_back HIO.out (backL_length o no) (backL_ord HIO.out)).1
            have HHC := Lib.hid (HHX.out.keep hbr')
            have hdx : DV wC P no R nm (renS s o no) (renM (matesOf m) o no) := ⟨HP.out.keep hbr', HR.out.keep hbr', by omega, by omega, fun j hj => by
              have hn4 := HN4.out
              have := renM_range (m := matesOf m) HIO.out (fun x hx => HRD.out.2.1.lt x hx) hn64 (j := j) (by omega)
              omega⟩
            have HXV := Lib.hid hdx
            have HBI : Hid (∀ j, j < no → -9223372036854775808 ≤ (backL o no).getD j 0 ∧ (backL o no).getD j 0 ≤ 9223372036854775807) := fun j hj => by
              rw [backL_get hj]
              have := (ord_invN HIO.out hj).2
              omega
            have CN2 : Hid (Calls Try.prog 36 #[dval P no pc R nm rc lp, .slice (some ⟨gM, 0, none⟩) no no] wC (RenOK2 (renS s o no) (renM (matesOf m) o no) (backL o no) lp no nm wC)) :=
              renumber_ok P R (some ⟨gM, 0, none⟩) no pc nm rc no no lp (renS s o no) (renM (matesOf m) o no) (backL o no) wC hdx rB (by omega) (by omega) HBI.out HV2.out HIB.out
            have hwC := below_step hw1X hbr'
            clear hA hA1 rB hdx hlt hk hk0 hbr hbr' hmk hA0 hbA HX HP HR HHX HOX HDX hw1X
            go_upto_region 15 with (go_at_call 36; ((with_reducible refine CN2.out.mono ?_); rintro e w4 ⟨P2, pc2, R2, rc2, rfl, oP2, oR2, hb4⟩))
            rw [HRB.out.1] at oP2
            rw [HRB.out.2] at oR2
            have hb4' := below_step hb4 (below_alloc w4 (dbox P2 no pc2 R2 nm rc2 lp))
            have HY := Lib.hid (DB.new w4 P2 no pc2 R2 nm rc2 lp)
            have HP2 := Lib.hid (oP2.keep (below_alloc w4 (dbox P2 no pc2 R2 nm rc2 lp)))
            have HR2 := Lib.hid (oR2.keep (below_alloc w4 (dbox P2 no pc2 R2 nm rc2 lp)))
            have q0 := (hb4'.cell (p := ⟨gB, 0, none⟩) ylt).trans y0
            have q1 := (hb4'.cell (p := ⟨gB, 1, none⟩) ylt).trans y1
            have q2 := (hb4'.cell (p := ⟨gB, 2, none⟩) ylt).trans y2
            have qlt := Nat.lt_of_lt_of_le ylt hb4'.size
            have p0 := (hb4'.cell (p := ⟨w.heap.size, 0, none⟩) xlt).trans x0
            have p1 := (hb4'.cell (p := ⟨w.heap.size, 1, none⟩) xlt).trans x1
            have p2 := (hb4'.cell (p := ⟨w.heap.size, 2, none⟩) xlt).trans x2
            have plt := Nat.lt_of_lt_of_le xlt hb4'.size
            obtain ⟨gY, hgY⟩ : ∃ g, w4.heap.size = g := ⟨_, rfl⟩
            rw [hgY] at HY ⊢
            have HXD := Lib.hid (HXV.out.keep hb4')
            have HDD := Lib.hid (HHC.out.keep hb4')
            have hwD := below_step hwC hb4'
            clear hgY hb4 hb4' y0 y1 y2 ylt x0 x1 x2 xlt oP2 oR2 HXV HHC hwC CN2
            generalize w4.alloc (dbox P2 no pc2 R2 nm rc2 lp) = wD at *
            obtain ⟨r0, r1, r2, rlt⟩ := HY.out
            have CV : ∀ W : World, Below wD.heap.size wD W → Hid (Calls Try.prog 16 #[dval P no pc R nm rc lp] W fun e w' => e = .returned (.bool true) ∧ Below W.heap.size W w') := fun W hb => (HXD.out.keep hb).valid pc rc lp true HV2.out
            have CE : ∀ W : World, Below wD.heap.size wD W → Hid (Calls Try.prog 15 #[dval P2 no pc2 R2 nm rc2 lp, dval A no cs B nm cm lp] W fun e w' => e = .returned (.bool true) ∧ Below W.heap.size W w') := fun W hb => by
              have := equal_any P2 R2 A B no pc2 nm rc2 no cs nm cm lp lp s m s m W (HP2.out.keep hb) (HR2.out.keep hb) (HDD.out.keep hb).hs (HDD.out.keep hb).hm (by omega) (by have := HN4.out; omega) (by omega) (by have := HN4.out; omega)
              rw [show eqD s m lp s m lp = true by simp [eqD]] at this
              exact this
            obtain ⟨sx1, sx2, sx3⟩ := lists_small HV2.out (renS_length s o no)
            obtain ⟨sy1, sy2, sy3⟩ := lists_small HV.out HLS.out
            have L1 := SmallL.len sx1 sy1 (fun k => (many_faces HV.out HLS.out HIO.out k).symm)
            have L2 := SmallL.len sx2 sy2 (fun k => (many_strands HV.out HLS.out HIO.out k).symm)
            have L3 := SmallL.len sx3 sy3 (fun k => (many_parts HV.out HLS.out HIO.out k).symm)
            have CFx : ∀ W : World, Below wD.heap.size wD W → Hid (Calls Try.prog 25 #[dval P no pc R nm rc lp] W (CycsPost W (facesM (renS s o no) (renM (matesOf m) o no) lp))) := fun W hb => faces_any P R no pc nm rc lp _ _ W (HXD.out.keep hb)
            have CFd : ∀ W : World, Below wD.heap.size wD W → Hid (Calls Try.prog 25 #[dval A no cs B nm cm lp] W (CycsPost W (facesM s m lp))) := fun W hb => faces_any A B no cs nm cm lp _ _ W (HDD.out.keep hb)
            have CSx : ∀ W : World, Below wD.heap.size wD W → Hid (Calls Try.prog 27 #[dval P no pc R nm rc lp] W (CycsPost W (strandsM (renS s o no) (renM (matesOf m) o no) lp))) := fun W hb => strands_any P R no pc nm rc lp _ _ W (HXD.out.keep hb)
            have CSd : ∀ W : World, Below wD.heap.size wD W → Hid (Calls Try.prog 27 #[dval A no cs B nm cm lp] W (CycsPost W (strandsM s m lp))) := fun W hb => strands_any A B no cs nm cm lp _ _ W (HDD.out.keep hb)
            have CGx : ∀ W : World, Below wD.heap.size wD W → Hid (Calls Try.prog 26 #[dval P no pc R nm rc lp] W (CycsPost W (graphM (renS s o no) (renM (matesOf m) o no) lp))) := fun W hb => graph_any P R no pc nm rc lp _ _ W (HXD.out.keep hb)
            have CGd : ∀ W : World, Below wD.heap.size wD W → Hid (Calls Try.prog 26 #[dval A no cs B nm cm lp] W (CycsPost W (graphM s m lp))) := fun W hb => graph_any A B no cs nm cm lp _ _ W (HDD.out.keep hb)
            have CCx : ∀ W : World, Below wD.heap.size wD W → Hid (Calls Try.prog 28 #[dval P no pc R nm rc lp] W fun e w' => e = .returned (.int .i64 (compM s m lp)) ∧ Below W.heap.size W w') := fun W hb => by
              rw [← comp_ren HV.out HLS.out HIO.out]; exact components_any P R no pc nm rc lp _ _ W (HXD.out.keep hb)
            have CCd : ∀ W : World, Below wD.heap.size wD W → Hid (Calls Try.prog 28 #[dval A no cs B nm cm lp] W fun e w' => e = .returned (.int .i64 (compM s m lp)) ∧ Below W.heap.size W w') := fun W hb => components_any A B no cs nm cm lp _ _ W (HDD.out.keep hb)
            clear sx1 sx2 sx3 sy1 sy2 sy3
            generalize facesM (renS s o no) (renM (matesOf m) o no) lp = Fx at *
            generalize strandsM (renS s o no) (renM (matesOf m) o no) lp = Sx at *
            generalize graphM (renS s o no) (renM (matesOf m) o no) lp = Gx at *
            generalize facesM s m lp = Fd at *
            generalize strandsM s m lp = Sd at *
            generalize graphM s m lp = Gd at *
            generalize compM s m lp = Cm at *
            have z0 : Below wD.heap.size wD wD.drew := (Below.refl _ _).drew
            go_region_held3 (fun w' => (w'.cell? ⟨gB, 0, none⟩ = some (.slice P no pc) ∧ w'.cell? ⟨gB, 1, none⟩ = some (.slice R nm rc) ∧ w'.cell? ⟨gB, 2, none⟩ = some (.int .i64 lp)) ∧ (w'.cell? ⟨gY, 0, none⟩ = some (.slice P2 no pc2) ∧ w'.cell? ⟨gY, 1, none⟩ = some (.slice R2 nm rc2) ∧ w'.cell? ⟨gY, 2, none⟩ = some (.int .i64 lp)) ∧ (w'.cell? ⟨w.heap.size, 0, none⟩ = some (.slice A no cs) ∧ w'.cell? ⟨w.heap.size, 1, none⟩ = some (.slice B nm cm) ∧ w'.cell? ⟨w.heap.size, 2, none⟩ = some (.int .i64 lp)))
              (first
                | go_keep
                | exact ⟨⟨(z13.cell (p := ⟨gB, 0, none⟩) qlt).trans q0, (z13.cell (p := ⟨gB, 1, none⟩) qlt).trans q1, (z13.cell (p := ⟨gB, 2, none⟩) qlt).trans q2⟩, ⟨(z13.cell (p := ⟨gY, 0, none⟩) rlt).trans r0, (z13.cell (p := ⟨gY, 1, none⟩) rlt).trans r1, (z13.cell (p := ⟨gY, 2, none⟩) rlt).trans r2⟩, ⟨(z13.cell (p := ⟨w.heap.size, 0, none⟩) plt).trans p0, (z13.cell (p := ⟨w.heap.size, 1, none⟩) plt).trans p1, (z13.cell (p := ⟨w.heap.size, 2, none⟩) plt).trans p2⟩⟩
                | exact ⟨⟨(z12.cell (p := ⟨gB, 0, none⟩) qlt).trans q0, (z12.cell (p := ⟨gB, 1, none⟩) qlt).trans q1, (z12.cell (p := ⟨gB, 2, none⟩) qlt).trans q2⟩, ⟨(z12.cell (p := ⟨gY, 0, none⟩) rlt).trans r0, (z12.cell (p := ⟨gY, 1, none⟩) rlt).trans r1, (z12.cell (p := ⟨gY, 2, none⟩) rlt).trans r2⟩, ⟨(z12.cell (p := ⟨w.heap.size, 0, none⟩) plt).trans p0, (z12.cell (p := ⟨w.heap.size, 1, none⟩) plt).trans p1, (z12.cell (p := ⟨w.heap.size, 2, none⟩) plt).trans p2⟩⟩
                | exact ⟨⟨(z11.cell (p := ⟨gB, 0, none⟩) qlt).trans q0, (z11.cell (p := ⟨gB, 1, none⟩) qlt).trans q1, (z11.cell (p := ⟨gB, 2, none⟩) qlt).trans q2⟩, ⟨(z11.cell (p := ⟨gY, 0, none⟩) rlt).trans r0, (z11.cell (p := ⟨gY, 1, none⟩) rlt).trans r1, (z11.cell (p := ⟨gY, 2, none⟩) rlt).trans r2⟩, ⟨(z11.cell (p := ⟨w.heap.size, 0, none⟩) plt).trans p0, (z11.cell (p := ⟨w.heap.size, 1, none⟩) plt).trans p1, (z11.cell (p := ⟨w.heap.size, 2, none⟩) plt).trans p2⟩⟩
                | exact ⟨⟨(z10.cell (p := ⟨gB, 0, none⟩) qlt).trans q0, (z10.cell (p := ⟨gB, 1, none⟩) qlt).trans q1, (z10.cell (p := ⟨gB, 2, none⟩) qlt).trans q2⟩, ⟨(z10.cell (p := ⟨gY, 0, none⟩) rlt).trans r0, (z10.cell (p := ⟨gY, 1, none⟩) rlt).trans r1, (z10.cell (p := ⟨gY, 2, none⟩) rlt).trans r2⟩, ⟨(z10.cell (p := ⟨w.heap.size, 0, none⟩) plt).trans p0, (z10.cell (p := ⟨w.heap.size, 1, none⟩) plt).trans p1, (z10.cell (p := ⟨w.heap.size, 2, none⟩) plt).trans p2⟩⟩
                | exact ⟨⟨(z9.cell (p := ⟨gB, 0, none⟩) qlt).trans q0, (z9.cell (p := ⟨gB, 1, none⟩) qlt).trans q1, (z9.cell (p := ⟨gB, 2, none⟩) qlt).trans q2⟩, ⟨(z9.cell (p := ⟨gY, 0, none⟩) rlt).trans r0, (z9.cell (p := ⟨gY, 1, none⟩) rlt).trans r1, (z9.cell (p := ⟨gY, 2, none⟩) rlt).trans r2⟩, ⟨(z9.cell (p := ⟨w.heap.size, 0, none⟩) plt).trans p0, (z9.cell (p := ⟨w.heap.size, 1, none⟩) plt).trans p1, (z9.cell (p := ⟨w.heap.size, 2, none⟩) plt).trans p2⟩⟩
                | exact ⟨⟨(z8.cell (p := ⟨gB, 0, none⟩) qlt).trans q0, (z8.cell (p := ⟨gB, 1, none⟩) qlt).trans q1, (z8.cell (p := ⟨gB, 2, none⟩) qlt).trans q2⟩, ⟨(z8.cell (p := ⟨gY, 0, none⟩) rlt).trans r0, (z8.cell (p := ⟨gY, 1, none⟩) rlt).trans r1, (z8.cell (p := ⟨gY, 2, none⟩) rlt).trans r2⟩, ⟨(z8.cell (p := ⟨w.heap.size, 0, none⟩) plt).trans p0, (z8.cell (p := ⟨w.heap.size, 1, none⟩) plt).trans p1, (z8.cell (p := ⟨w.heap.size, 2, none⟩) plt).trans p2⟩⟩
                | exact ⟨⟨(z7.cell (p := ⟨gB, 0, none⟩) qlt).trans q0, (z7.cell (p := ⟨gB, 1, none⟩) qlt).trans q1, (z7.cell (p := ⟨gB, 2, none⟩) qlt).trans q2⟩, ⟨(z7.cell (p := ⟨gY, 0, none⟩) rlt).trans r0, (z7.cell (p := ⟨gY, 1, none⟩) rlt).trans r1, (z7.cell (p := ⟨gY, 2, none⟩) rlt).trans r2⟩, ⟨(z7.cell (p := ⟨w.heap.size, 0, none⟩) plt).trans p0, (z7.cell (p := ⟨w.heap.size, 1, none⟩) plt).trans p1, (z7.cell (p := ⟨w.heap.size, 2, none⟩) plt).trans p2⟩⟩
                | exact ⟨⟨(z6.cell (p := ⟨gB, 0, none⟩) qlt).trans q0, (z6.cell (p := ⟨gB, 1, none⟩) qlt).trans q1, (z6.cell (p := ⟨gB, 2, none⟩) qlt).trans q2⟩, ⟨(z6.cell (p := ⟨gY, 0, none⟩) rlt).trans r0, (z6.cell (p := ⟨gY, 1, none⟩) rlt).trans r1, (z6.cell (p := ⟨gY, 2, none⟩) rlt).trans r2⟩, ⟨(z6.cell (p := ⟨w.heap.size, 0, none⟩) plt).trans p0, (z6.cell (p := ⟨w.heap.size, 1, none⟩) plt).trans p1, (z6.cell (p := ⟨w.heap.size, 2, none⟩) plt).trans p2⟩⟩
                | exact ⟨⟨(z5.cell (p := ⟨gB, 0, none⟩) qlt).trans q0, (z5.cell (p := ⟨gB, 1, none⟩) qlt).trans q1, (z5.cell (p := ⟨gB, 2, none⟩) qlt).trans q2⟩, ⟨(z5.cell (p := ⟨gY, 0, none⟩) rlt).trans r0, (z5.cell (p := ⟨gY, 1, none⟩) rlt).trans r1, (z5.cell (p := ⟨gY, 2, none⟩) rlt).trans r2⟩, ⟨(z5.cell (p := ⟨w.heap.size, 0, none⟩) plt).trans p0, (z5.cell (p := ⟨w.heap.size, 1, none⟩) plt).trans p1, (z5.cell (p := ⟨w.heap.size, 2, none⟩) plt).trans p2⟩⟩
                | exact ⟨⟨(z4.cell (p := ⟨gB, 0, none⟩) qlt).trans q0, (z4.cell (p := ⟨gB, 1, none⟩) qlt).trans q1, (z4.cell (p := ⟨gB, 2, none⟩) qlt).trans q2⟩, ⟨(z4.cell (p := ⟨gY, 0, none⟩) rlt).trans r0, (z4.cell (p := ⟨gY, 1, none⟩) rlt).trans r1, (z4.cell (p := ⟨gY, 2, none⟩) rlt).trans r2⟩, ⟨(z4.cell (p := ⟨w.heap.size, 0, none⟩) plt).trans p0, (z4.cell (p := ⟨w.heap.size, 1, none⟩) plt).trans p1, (z4.cell (p := ⟨w.heap.size, 2, none⟩) plt).trans p2⟩⟩
                | exact ⟨⟨(z3.cell (p := ⟨gB, 0, none⟩) qlt).trans q0, (z3.cell (p := ⟨gB, 1, none⟩) qlt).trans q1, (z3.cell (p := ⟨gB, 2, none⟩) qlt).trans q2⟩, ⟨(z3.cell (p := ⟨gY, 0, none⟩) rlt).trans r0, (z3.cell (p := ⟨gY, 1, none⟩) rlt).trans r1, (z3.cell (p := ⟨gY, 2, none⟩) rlt).trans r2⟩, ⟨(z3.cell (p := ⟨w.heap.size, 0, none⟩) plt).trans p0, (z3.cell (p := ⟨w.heap.size, 1, none⟩) plt).trans p1, (z3.cell (p := ⟨w.heap.size, 2, none⟩) plt).trans p2⟩⟩
                | exact ⟨⟨(z2.cell (p := ⟨gB, 0, none⟩) qlt).trans q0, (z2.cell (p := ⟨gB, 1, none⟩) qlt).trans q1, (z2.cell (p := ⟨gB, 2, none⟩) qlt).trans q2⟩, ⟨(z2.cell (p := ⟨gY, 0, none⟩) rlt).trans r0, (z2.cell (p := ⟨gY, 1, none⟩) rlt).trans r1, (z2.cell (p := ⟨gY, 2, none⟩) rlt).trans r2⟩, ⟨(z2.cell (p := ⟨w.heap.size, 0, none⟩) plt).trans p0, (z2.cell (p := ⟨w.heap.size, 1, none⟩) plt).trans p1, (z2.cell (p := ⟨w.heap.size, 2, none⟩) plt).trans p2⟩⟩
                | exact ⟨⟨(z1.cell (p := ⟨gB, 0, none⟩) qlt).trans q0, (z1.cell (p := ⟨gB, 1, none⟩) qlt).trans q1, (z1.cell (p := ⟨gB, 2, none⟩) qlt).trans q2⟩, ⟨(z1.cell (p := ⟨gY, 0, none⟩) rlt).trans r0, (z1.cell (p := ⟨gY, 1, none⟩) rlt).trans r1, (z1.cell (p := ⟨gY, 2, none⟩) rlt).trans r2⟩, ⟨(z1.cell (p := ⟨w.heap.size, 0, none⟩) plt).trans p0, (z1.cell (p := ⟨w.heap.size, 1, none⟩) plt).trans p1, (z1.cell (p := ⟨w.heap.size, 2, none⟩) plt).trans p2⟩⟩)
              (first
                | (go_at_call 16; ((with_reducible refine (CV _ z0).out.mono ?_); rintro e y1 ⟨rfl, hc1⟩; have z1 := below_step z0 hc1))
                | (go_at_call 15; ((with_reducible refine (CE _ z1).out.mono ?_); rintro e y2 ⟨rfl, hc2⟩; have z2 := below_step z1 hc2))
                | (go_at_call 25; ((with_reducible refine (CFx _ z2).out.mono ?_); rintro e y3 ⟨v3, rfl, ho3, hc3⟩; have z3 := below_step z2 hc3; obtain ⟨A3, c3, rfl, s3⟩ := ho3.ro; clear ho3))
                | (go_at_call 25; ((with_reducible refine (CFd _ z3).out.mono ?_); rintro e y4 ⟨v4, rfl, ho4, hc4⟩; have z4 := below_step z3 hc4; obtain ⟨A4, c4, rfl, s4⟩ := ho4.ro; have s3' := s3.keep hc4; clear ho4))
                | (go_at_call 39; ((with_reducible refine (L1 A3 A4 c3 c4 _ s3' s4).out.mono ?_); rintro e y5 ⟨rfl, hc5⟩; have z5 := below_step z4 hc5))
                | (go_at_call 27; ((with_reducible refine (CSx _ z5).out.mono ?_); rintro e y6 ⟨v6, rfl, ho6, hc6⟩; have z6 := below_step z5 hc6; obtain ⟨A6, c6, rfl, s6⟩ := ho6.ro; clear ho6))
                | (go_at_call 27; ((with_reducible refine (CSd _ z6).out.mono ?_); rintro e y7 ⟨v7, rfl, ho7, hc7⟩; have z7 := below_step z6 hc7; obtain ⟨A7, c7, rfl, s7⟩ := ho7.ro; have s6' := s6.keep hc7; clear ho7))
                | (go_at_call 39; ((with_reducible refine (L2 A6 A7 c6 c7 _ s6' s7).out.mono ?_); rintro e y8 ⟨rfl, hc8⟩; have z8 := below_step z7 hc8))
                | (go_at_call 26; ((with_reducible refine (CGx _ z8).out.mono ?_); rintro e y9 ⟨v9, rfl, ho9, hc9⟩; have z9 := below_step z8 hc9; obtain ⟨A9, c9, rfl, s9⟩ := ho9.ro; clear ho9))
                | (go_at_call 26; ((with_reducible refine (CGd _ z9).out.mono ?_); rintro e y10 ⟨v10, rfl, ho10, hc10⟩; have z10 := below_step z9 hc10; obtain ⟨A10, c10, rfl, s10⟩ := ho10.ro; have s9' := s9.keep hc10; clear ho10))
                | (go_at_call 39; ((with_reducible refine (L3 A9 A10 c9 c10 _ s9' s10).out.mono ?_); rintro e y11 ⟨rfl, hc11⟩; have z11 := below_step z10 hc11))
                | (go_at_call 28; ((with_reducible refine (CCx _ z11).out.mono ?_); rintro e y12 ⟨rfl, hc12⟩; have z12 := below_step z11 hc12))
                | (go_at_call 28; ((with_reducible refine (CCd _ z12).out.mono ?_); rintro e y13 ⟨rfl, hc13⟩; have z13 := below_step z12 hc13)))
            go_wp2
            go_ret
            exact ⟨ret_bool (by simp), below_step hwD z13⟩
      · have CN : ∀ W : World, Below w1.heap.size w1 W → Hid (Calls Try.prog 36 #[dval A ns cs B nm cm lp, .slice C no co] W (RenNo W)) := fun W hb =>
          renumber_no A B C ns cs nm cm no co lp s m o W (H.out.keep hb) (HO.out.keep hb) (by omega) (by omega) HOI.out hc
        clear hc
        go_wp2_with (first
          | (go_at_call 12; ((with_reducible refine CG.out.mono ?_); rintro e w2 ⟨rfl, hb2⟩; have e0 := (hb2.cell (p := ⟨w.heap.size, 0, none⟩) dlt).trans d0; have e1 := (hb2.cell (p := ⟨w.heap.size, 1, none⟩) dlt).trans d1; have e2 := (hb2.cell (p := ⟨w.heap.size, 2, none⟩) dlt).trans d2))
          | (go_at_call 36; ((with_reducible refine (CN _ hb2).out.mono ?_); rintro e w3 ⟨⟨k, hk1, hk2, rfl⟩, hb3⟩; have hkn : (k != 0) = true := (by simp only [bne_iff_ne, ne_eq]; omega))))
        go_ret
        exact ⟨rfl, below_step hw1 (below_step hb2 (below_step hb3 (below_alloc _ _)))⟩

end Go.Proofs.Ytcllnoigppkjiaa
