import Derived.Test.YtdacjnmfmhkpiaaGreatDoorZ18
import Derived.Test.YtdacjnmfmhkpiaaGreatDoorZ19
import Derived.Test.YtdacjnmfmhkpiaaGreatDoorZ20
import Derived.Test.YtdacjnmfmhkpiaaGreatDoorZ05
import Derived.Test.YtdacjnmfmhkpiaaGreatDoorCards
import Derived.Test.YtdacjnmfmhkpiaaGreatDoorZ17
import Derived.LaidMore
import Derived.LaidHandle
import Derived.OpenShut
import Derived.Stop.Joined
import Derived.Stop.LaidErr
import Derived.Test.YtdacjnmfmhkpiaaGreatDoorZ09
import Derived.Deep.RegionHeld3
import Derived.Deep.DeepCutAuto
/- Walk: the law GaussOf. -/
namespace Go.Proofs.YtdacjnmfmhkpiaaGreatDoor
open Go.ChangeShapes Go.WideShapes Go.ChangeAt Go.RowKit Go.Joins

theorem mt_inI {m : List Int} (h : ∀ z ∈ m, inI z) (j : Nat) : -9223372036854775808 ≤ mt m j ∧ mt m j ≤ 9223372036854775807 := by
  unfold mt
  rcases Nat.lt_or_ge j m.length with hj | hj
  · have e : m.getD j 0 = m[j] := by simp [List.getD, hj]
    rw [e]; exact h _ (List.getElem_mem hj)
  · have e : m.getD j 0 = 0 := by simp [List.getD, hj]
    rw [e]; omega
theorem DV.small {w : World} {A B : Option Addr} {ns nm : Nat} {s m : List Int} (hs : RI w A ns s) (hm : RI w B nm m) (hmI : ∀ z ∈ m, inI z) (h1 : ns ≤ 14) (h2 : nm ≤ 100000000000000) : DV w A ns B nm s m :=
  ⟨hs, hm, by omega, h2, fun j _ => mt_inI hmI j⟩
theorem codeC_len {s m : List Int} {lp : Int} : (codeC s m lp).length = (strandsM s m lp).length := by unfold codeC; rw [List.length_map]
theorem codeC_small {s m : List Int} {lp : Int} {ns nm : Nat} (hv : validB s m lp = true) (hls : s.length = ns) (hlm : m.length = nm) :
    nm = 4 * ns ∧ ns ≤ 64 ∧ (codeC s m lp).length ≤ 256 ∧ (∀ j, ((codeC s m lp).getD j []).length ≤ 256) ∧ (codeC s m lp).flatten.length = 2 * ns := by
  have B := bk_facts hv
  have G := gv_facts (codeC_gval hv)
  have h1 := B.lm
  have h2 := B.le
  have h3 := G.len
  have h4 := len_flat G.ne
  refine ⟨by omega, by omega, by omega, fun j => ?_, by omega⟩
  have := row_flat (vss := codeC s m lp) j
  omega
/-- The reference's Of at a valid diagram. -/
theorem rof_valid {w : World} {A B : Option Addr} {ns nm : Nat} {s m : List Int} {lp : Int} (cs cm : Nat) (h : DV w A ns B nm s m) (hv : validB s m lp = true) :
    Calls Tryz.prog 17 #[dval A ns cs B nm cm lp] w (ROfPost s (codeC s m lp) lp ns w) := by
  have F := bk_facts hv
  obtain ⟨c1, c2, c3, c4, c5⟩ := codeC_small hv h.hs.1 h.hm.1
  have hlm := h.hm.1
  have hls := h.hs.1
  refine rof_any A B ns cs nm cm lp s (strandsM s m lp) w h.hs (by omega) (by rw [← codeC_len]; omega) (fun j hj => ?_) (fun W hb => ?_)
  · obtain ⟨e1, e2⟩ := strands_el hv hls j hj
    exact ⟨by omega, fun i hi => by have := e2 i hi; omega⟩
  · have hk := h.keep hb
    have hmm := matesOf_mates F.pr hlm
    have hp : Perm (fs (matesOf m)) nm := by rw [← hlm]; exact F.p
    have e : strandsM s m lp = cycL (fs (matesOf m)) nm (outB s) nm := by unfold strandsM; rw [if_pos hv, hlm]
    rw [e]
    exact rstrands_any A B ns cs nm cm lp s m (matesOf m) W hk.hs c1 hk.hm hmm hp (by omega) (fun x hx ho => out_closed F.sg F.pr hlm hls c1 x hx ho)

set_option maxHeartbeats 12800000 in
set_option maxRecDepth 100000 in
theorem gof_walk (A B : Option Addr) (ns cs nm cm : Nat) (lp : Int) (s m : List Int) (w : World) (hs : RI w A ns s) (hm : RI w B nm m) (hns : ns ≤ 9223372036854775807) (hnm : nm ≤ 9223372036854775807) (hmI : ∀ z ∈ m, inI z) (ht : TabW w) :
    Calls Tryz.prog 3 #[dval A ns cs B nm cm lp] w fun e w' => e = .returned (.bool true) ∧ Below w.heap.size w w' := by
  have hd := DB.new w A ns cs B nm cm lp
  have hb0 := below_alloc w (dbox A ns cs B nm cm lp)
  have HTW : ∀ W, Below w.heap.size w W → Hid (Calls Tryz.prog 12 #[] W fun e w' => e = .returned (.bool true) ∧ Below W.heap.size W w') := fun W hb => gawake_any W (ht.keep hb)
  clear ht
  obtain ⟨d0, d1, d2, dlt⟩ := hd
  by_cases hsm : ns ≤ 14 ∧ nm ≤ 70
  · obtain ⟨hs14, hm70⟩ := hsm
    have hs1 : (ns : Int) ≤ 14 := by omega
    have hm1 : (nm : Int) ≤ 70 := by omega
    have H := Lib.hid (DV.small hs hm hmI hs14 (by omega))
    clear hs hm hmI hns hnm
    cases hv : validB s m lp with
    | false =>
      have CO : ∀ W, Below w.heap.size w W → Hid (Calls Tryz.prog 13 #[dval A ns cs B nm cm lp] W (OfNo W)) := fun W hb => of_no A B ns cs nm cm lp s m W (H.out.keep hb) hv
      have CV : ∀ W, Below w.heap.size w W → Hid (Calls Tryz.prog 14 #[dval A ns cs B nm cm lp] W fun e w' => e = .returned (.bool false) ∧ Below W.heap.size W w') := fun W hb => (H.out.keep hb).rvalid cs cm lp false hv
      have CP : ∀ W : World, Hid (Calls Tryz.prog 16 #[dval none 0 0 none 0 0 0] W fun e w' => ∃ A' c', e = .returned (dval A' 0 c' none 0 0 0) ∧ Below W.heap.size W w') := fun W => by
        have h := plain_any none none 0 0 0 0 0 [] W (RVV.nil _ _) (by omega) (fun j => by simp)
        refine h.mono ?_
        rintro e w' ⟨A', c', rfl, _, hb⟩
        exact ⟨A', c', rfl, hb⟩
      have CS : ∀ (A' : Option Addr) (c' : Nat) (W : World), Hid (Calls Tryz.prog 15 #[dval A' 0 c' none 0 0 0, dval none 0 0 none 0 0 0] W fun e w' => e = .returned (.bool true) ∧ Below W.heap.size W w') := fun A' c' W =>
        same_true A' none none none 0 c' 0 0 0 0 0 [] [] W (RVV.nil _ _) (RI.nil _ _) (RVV.nil _ _) (RI.nil _ _) (by omega) (by omega) (fun j => by simp)
      clear hv H
      go_enter Tryz.func3, Tryz.ntmps3
      go_wp2_with (first
        | (go_at_call 12; ((with_reducible refine (HTW _ hb0).out.mono ?_); rintro e w1 ⟨rfl, hb1⟩; have hb01 := below_step hb0 hb1; have e0 := (hb1.cell (p := ⟨w.heap.size, 0, none⟩) dlt).trans d0; have e1 := (hb1.cell (p := ⟨w.heap.size, 1, none⟩) dlt).trans d1; have e2 := (hb1.cell (p := ⟨w.heap.size, 2, none⟩) dlt).trans d2; have elt := Nat.lt_of_lt_of_le dlt hb1.size))
        | (go_at_call 13; ((with_reducible refine (CO _ hb01).out.mono ?_); rintro e w2 ⟨rfl, hb2⟩; have hb2' := below_step hb2 (below_alloc w2 (.cells #[.slice none 0 0, .slice none 0 0, .int .i64 0] 28)); have g0 := (hb2'.cell (p := ⟨w.heap.size, 0, none⟩) elt).trans e0; have g1 := (hb2'.cell (p := ⟨w.heap.size, 1, none⟩) elt).trans e1; have g2 := (hb2'.cell (p := ⟨w.heap.size, 2, none⟩) elt).trans e2; have hb02 := below_step hb01 hb2'; have HX := Lib.hid (DB.newT w2 none 0 0 none 0 0 0 28)))
        | (go_at_call 14; ((with_reducible refine (CV _ hb02).out.mono ?_); rintro e w3 ⟨rfl, hb3⟩; have hb03 := below_step hb02 hb3; obtain ⟨x0, x1, x2, xlt⟩ := HX.out.keep hb3))
        | (go_at_call 16; ((with_reducible refine (CP _).out.mono ?_); rintro e w4 ⟨A4, c4, rfl, hb4⟩; have hb04 := below_step hb03 hb4))
        | (go_at_call 15; ((with_reducible refine (CS A4 c4 _).out.mono ?_); rintro e w5 ⟨rfl, hb5⟩)))
      go_ret
      exact ⟨rfl, below_step hb04 hb5⟩
    | true =>
      obtain ⟨z1, z2, z3, z4, z5⟩ := codeC_small hv H.out.hs.1 H.out.hm.1
      have CO : ∀ W, Below w.heap.size w W → Hid (Calls Tryz.prog 13 #[dval A ns cs B nm cm lp] W (OfPost s m lp ns W)) := fun W hb => of_yes A B ns cs nm cm lp s m W (H.out.keep hb) hv
      have CV : ∀ W, Below w.heap.size w W → Hid (Calls Tryz.prog 14 #[dval A ns cs B nm cm lp] W fun e w' => e = .returned (.bool true) ∧ Below W.heap.size W w') := fun W hb => (H.out.keep hb).rvalid cs cm lp true hv
      have CRO : ∀ W, Below w.heap.size w W → Hid (Calls Tryz.prog 17 #[dval A ns cs B nm cm lp] W (ROfPost s (codeC s m lp) lp ns W)) := fun W hb => rof_valid cs cm (H.out.keep hb) hv
      clear hv
      obtain ⟨V, hV⟩ : ∃ V, codeC s m lp = V := ⟨_, rfl⟩
      unfold OfPost at CO
      unfold ROfPost at CRO
      simp only [hV] at CO CRO z3 z4 z5
      clear hV
      have CP : ∀ (C S : Option Addr) (nc cc cs' : Nat) (W : World), RVV W C nc V → Hid (Calls Tryz.prog 16 #[dval C nc cc S ns cs' lp] W (PlainPost V S nc ns cs' lp W)) := fun C S nc cc cs' W hC =>
        plain_any C S nc cc ns cs' lp V W hC (by have := hC.1; omega) (fun j => by have := z4 j; omega)
      have CS : ∀ (C S C' S' : Option Addr) (nc cc cs1 cc' cs' : Nat) (W : World), RVV W C nc V → RI W S ns s → RVV W C' nc V → RI W S' ns s → Hid (Calls Tryz.prog 15 #[dval C nc cc S ns cs1 lp, dval C' nc cc' S' ns cs' lp] W fun e w' => e = .returned (.bool true) ∧ Below W.heap.size W w') := fun C S C' S' nc cc cs1 cc' cs' W h1 h2 h3 h4 =>
        same_true C S C' S' nc cc ns cs1 cc' cs' lp V s W h1 h2 h3 h4 (by omega) (by have := h1.1; omega) (fun j => by have := z4 j; omega)
      clear H z1 z2 z3 z4 z5
      go_enter Tryz.func3, Tryz.ntmps3
      go_upto_region 6 with (first
        | (go_at_call 12; ((with_reducible refine (HTW _ hb0).out.mono ?_); rintro e w1 ⟨rfl, hb1⟩; have hb01 := below_step hb0 hb1; have e0 := (hb1.cell (p := ⟨w.heap.size, 0, none⟩) dlt).trans d0; have e1 := (hb1.cell (p := ⟨w.heap.size, 1, none⟩) dlt).trans d1; have e2 := (hb1.cell (p := ⟨w.heap.size, 2, none⟩) dlt).trans d2; have elt := Nat.lt_of_lt_of_le dlt hb1.size))
        | (go_at_call 13; ((with_reducible refine (CO _ hb01).out.mono ?_); rintro e w2 ⟨C, nc, cc, S, sc, rfl, hC, hS, hb2⟩; have hb2' := below_step hb2 (below_alloc w2 (.cells #[.slice C nc cc, .slice S ns sc, .int .i64 lp] 28)); have g0 := (hb2'.cell (p := ⟨w.heap.size, 0, none⟩) elt).trans e0; have g1 := (hb2'.cell (p := ⟨w.heap.size, 1, none⟩) elt).trans e1; have g2 := (hb2'.cell (p := ⟨w.heap.size, 2, none⟩) elt).trans e2; have glt := Nat.lt_of_lt_of_le elt hb2'.size; have hb02 := below_step hb01 hb2'; have HX := Lib.hid (DB.newT w2 C nc cc S ns sc lp 28); have hC2 := hC.keep (below_alloc w2 (.cells #[.slice C nc cc, .slice S ns sc, .int .i64 lp] 28)); have hS2 := hS.keep (below_alloc w2 (.cells #[.slice C nc cc, .slice S ns sc, .int .i64 lp] 28))))
        | (go_at_call 14; ((with_reducible refine (CV _ hb02).out.mono ?_); rintro e w3 ⟨rfl, hb3⟩; have hb03 := below_step hb02 hb3; have f0 := (hb3.cell (p := ⟨w.heap.size, 0, none⟩) glt).trans g0; have f1 := (hb3.cell (p := ⟨w.heap.size, 1, none⟩) glt).trans g1; have f2 := (hb3.cell (p := ⟨w.heap.size, 2, none⟩) glt).trans g2; have flt := Nat.lt_of_lt_of_le glt hb3.size; obtain ⟨x0, x1, x2, xlt⟩ := HX.out.keep hb3; have hC3 := hC2.keep hb3; have hS3 := hS2.keep hb3)))
      have hC5' : ∀ {C5 : Option Addr} {W : World}, RVV W C5 V.length V → RVV W C5 nc V := fun {C5 W} h => by have e := hC3.1; rw [← e]; exact h
      have hlen : V.length = nc := hC3.1
      simp only [hlen] at CRO hC5'
      clear hlen
      have HC := Lib.hid hC3
      have HS := Lib.hid hS3
      have hbD : Below w3.heap.size w3 w3.drew := (Below.refl _ _).drew
      obtain ⟨gX, hgX⟩ : ∃ gX, w2.heap.size = gX := ⟨_, rfl⟩
      have HGX := Lib.hid hgX
      rw [hgX] at x0 x1 x2 xlt ⊢
      clear hgX HX hC hS hC2 hS2 hC3 hS3 hb1 hb2 hb2' hb3 d0 d1 d2 e0 e1 e2 g0 g1 g2 hb01 hb02 hb0
      go_region_held3 (fun w' => (w'.cell? ⟨w.heap.size, 0, none⟩ = some (.slice A ns cs) ∧ w'.cell? ⟨w.heap.size, 1, none⟩ = some (.slice B nm cm) ∧ w'.cell? ⟨w.heap.size, 2, none⟩ = some (.int .i64 lp)) ∧ (w'.cell? ⟨gX, 0, none⟩ = some (.slice C nc cc) ∧ w'.cell? ⟨gX, 1, none⟩ = some (.slice S ns sc) ∧ w'.cell? ⟨gX, 2, none⟩ = some (.int .i64 lp)))
        (first
          | go_keep
          | exact ⟨⟨(zz6.cell (p := ⟨w.heap.size, 0, none⟩) flt).trans f0, (zz6.cell (p := ⟨w.heap.size, 1, none⟩) flt).trans f1, (zz6.cell (p := ⟨w.heap.size, 2, none⟩) flt).trans f2⟩, ⟨(zz6.cell (p := ⟨gX, 0, none⟩) xlt).trans x0, (zz6.cell (p := ⟨gX, 1, none⟩) xlt).trans x1, (zz6.cell (p := ⟨gX, 2, none⟩) xlt).trans x2⟩⟩
          | exact ⟨⟨(zz5.cell (p := ⟨w.heap.size, 0, none⟩) flt).trans f0, (zz5.cell (p := ⟨w.heap.size, 1, none⟩) flt).trans f1, (zz5.cell (p := ⟨w.heap.size, 2, none⟩) flt).trans f2⟩, ⟨(zz5.cell (p := ⟨gX, 0, none⟩) xlt).trans x0, (zz5.cell (p := ⟨gX, 1, none⟩) xlt).trans x1, (zz5.cell (p := ⟨gX, 2, none⟩) xlt).trans x2⟩⟩
          | exact ⟨⟨(zz4.cell (p := ⟨w.heap.size, 0, none⟩) flt).trans f0, (zz4.cell (p := ⟨w.heap.size, 1, none⟩) flt).trans f1, (zz4.cell (p := ⟨w.heap.size, 2, none⟩) flt).trans f2⟩, ⟨(zz4.cell (p := ⟨gX, 0, none⟩) xlt).trans x0, (zz4.cell (p := ⟨gX, 1, none⟩) xlt).trans x1, (zz4.cell (p := ⟨gX, 2, none⟩) xlt).trans x2⟩⟩)
        (first
          | (go_at_call 15; ((with_reducible refine (CS _ _ _ _ _ _ _ _ _ _ ho4 (HS.out.keep zz5) (hC5' ho5) hS5).out.mono ?_); rintro e w6 ⟨rfl, hb6⟩; have zz6 := below_step zz5 hb6))
          | (go_at_call 17; ((with_reducible refine (CRO _ (below_step hb03 zz4)).out.mono ?_); rintro e w5 ⟨C5, cc5, S5, cs5, rfl, ho5, hS5, hb5⟩; have zz5 := below_step zz4 hb5; have ho4 := hR4.keep hb5))
          | (go_at_call 16; ((with_reducible refine (CP C S nc cc sc _ (HC.out.keep hbD)).out.mono ?_); rintro e w4 ⟨A4, c4, rfl, hR4, hb4⟩; have zz4 := below_step hbD hb4)))
      go_wp2
      go_ret
      exact ⟨rfl, below_step hb03 zz6⟩
  · clear hs hm hmI hns hnm
    by_cases h14 : ns ≤ 14
    · have hs1 : (ns : Int) ≤ 14 := by omega
      have hm1 : 70 < (nm : Int) := by omega
      clear hsm
      go_enter Tryz.func3, Tryz.ntmps3
      go_wp2_with (first
        | (go_at_call 12; ((with_reducible refine (HTW _ hb01).out.mono ?_); rintro e w2 ⟨rfl, hb2⟩))
        | (go_at_call 12; ((with_reducible refine (HTW _ hb0).out.mono ?_); rintro e w1 ⟨rfl, hb1⟩; have hb01 := below_step hb0 hb1; have e0 := (hb1.cell (p := ⟨w.heap.size, 0, none⟩) dlt).trans d0; have e1 := (hb1.cell (p := ⟨w.heap.size, 1, none⟩) dlt).trans d1)))
      go_ret
      exact ⟨rfl, below_step hb01 hb2⟩
    · have hs1 : 14 < (ns : Int) := by omega
      clear hsm
      go_enter Tryz.func3, Tryz.ntmps3
      go_wp2_with (first
        | (go_at_call 12; ((with_reducible refine (HTW _ hb01).out.mono ?_); rintro e w2 ⟨rfl, hb2⟩))
        | (go_at_call 12; ((with_reducible refine (HTW _ hb0).out.mono ?_); rintro e w1 ⟨rfl, hb1⟩; have hb01 := below_step hb0 hb1; have e0 := (hb1.cell (p := ⟨w.heap.size, 0, none⟩) dlt).trans d0; have e1 := (hb1.cell (p := ⟨w.heap.size, 1, none⟩) dlt).trans d1)))
      go_ret
      exact ⟨rfl, below_step hb01 hb2⟩

end Go.Proofs.YtdacjnmfmhkpiaaGreatDoor

/- From the cards' condition to the table of white space; a world that meets the condition. -/
namespace Go.Proofs.YtdacjnmfmhkpiaaGreatDoor
open Go.ChangeShapes Go.WideShapes Go.ChangeAt Go.RowKit Go.Joins

abbrev gLaid : List (String × DataW Unit) := Rows.gaussOfRow.laid
theorem door_met (os : Os) (args : Array Value) : laidMetH Tryz.prog gLaid ((World.doorLaid Tryz.prog 400 os).forCall (fun _ _ => 0) ⟨#[], args, []⟩).memory :=
  laidMetH_of_parts3 (fuel := 8) (laidMet_of_run' 8 (by kernel_rfl) (by kernel_rfl)) (by kernel_rfl) (by kernel_rfl)
theorem space_data : (Rows.laid_strings_asciiSpace : DataW Unit) = Lib.tabData .u8 Lib.asciiSpaceTab := by kernel_rfl
theorem laid_plain {W : World} (h : laidMetH Tryz.prog gLaid W) : laidMet Tryz.prog gLaid W := by
  rw [MakeChecks.laidMetH_plain _ _ _ (by kernel_rfl)] at h
  exact h
theorem tabW_of_laid {W : World} (h : laidMetH Tryz.prog gLaid W) : TabW W := by
  have h1 := laid_plain h
  have h2 : laidMet Tryz.prog [("strings.asciiSpace", Rows.laid_strings_asciiSpace)] W := h1.tail.tail.tail.tail.tail.tail
  rw [space_data] at h2
  exact Lib.tabIs_of_head Tryz.gSpace (by kernel_rfl) Tryz.underlying121 Tryz.underlying5 (by kernel_rfl) (by kernel_rfl) h2

end Go.Proofs.YtdacjnmfmhkpiaaGreatDoor

/- Walk: Diagram of a code. -/
namespace Go.Proofs.YtdacjnmfmhkpiaaGreatDoor
open Go.RowKit

theorem RI.set3 {W : World} {A : Option Addr} {n : Nat} {xs : List Int} (h : RI W A n xs) {g : Nat} (hne : ∀ b off, A = some ⟨b, off, none⟩ → g ≠ b) (x y z : Value) : RI (set3 W g x y z) A n xs :=
  ⟨h.1, fun hn => by
    obtain ⟨b, off, e, hlt, hc⟩ := h.2 hn
    refine ⟨b, off, e, ?_, fun j hj => (set3_far W g x y z (hne b off e) _).trans (hc j hj)⟩
    have := (set3_below (Below.refl 0 W) (Nat.zero_le g) x y z).size
    omega⟩
/-- No diagram: why. -/
def DiaNo (k : Int) (w : World) (e : Ending) (w' : World) : Prop := e = .returned (.tuple #[dval none 0 0 none 0 0 0, .int .i64 k]) ∧ Below w.heap.size w w'
def DiaYes (vss : List (List Vis)) (s : List Int) (lp : Int) (ns : Nat) (w : World) (e : Ending) (w' : World) : Prop :=
  ∃ P pc R, e = .returned (.tuple #[dval P ns pc R (4 * ns) (4 * ns) lp, .int .i64 0]) ∧ RI w' P ns s ∧ RI w' R (4 * ns) (mateL s vss) ∧ Below w.heap.size w w'
/-- What Diagram answers. -/
def DiaPost (vss : List (List Vis)) (s : List Int) (lp : Int) (ns : Nat) (w : World) (e : Ending) (w' : World) : Prop :=
  if gvalB vss s lp = false then DiaNo 1 w e w' else if genC vss s ≠ 0 then DiaNo 7 w e w' else DiaYes vss s lp ns w e w'

set_option maxHeartbeats 3200000 in
set_option maxRecDepth 100000 in
theorem gDiagram_any (C S : Option Addr) (nc cc ns cs : Nat) (lp : Int) (vss : List (List Vis)) (s : List Int) (w : World) (hC : RVV w C nc vss) (hS : RI w S ns s) (hns : ns ≤ 1000000) (hnc : nc ≤ 1000000) (hfl : vss.flatten.length ≤ 1000000) :
    Calls Tryz.prog 19 #[dval C nc cc S ns cs lp] w (DiaPost vss s lp ns w) := by
  have hd := (DB.newT w C nc cc S ns cs lp 28).keep (below_alloc _ (.cells #[.slice none 0 0, .slice none 0 0, .int .i64 0] 24))
  have hb0 := below_step (below_alloc w (cbox C nc cc S ns cs lp)) (below_alloc _ (.cells #[.slice none 0 0, .slice none 0 0, .int .i64 0] 24))
  have hr := DB.newT (w.alloc (cbox C nc cc S ns cs lp)) none 0 0 none 0 0 0 24
  have hrf : ∀ i, ((w.alloc (cbox C nc cc S ns cs lp)).alloc (.cells #[.slice none 0 0, .slice none 0 0, .int .i64 0] 24)).frozen? ⟨w.heap.size + 1, i, none⟩ = false := fun i => World.frozen?_alloc_at _ _ _ _ (by simp)
  have hsz : ((w.alloc (cbox C nc cc S ns cs lp)).alloc (.cells #[.slice none 0 0, .slice none 0 0, .int .i64 0] 24)).heap.size = w.heap.size + 2 := by simp
  have hsz1 : (w.alloc (cbox C nc cc S ns cs lp)).heap.size = w.heap.size + 1 := by simp
  rw [hsz1] at hr
  have hls := hS.1
  have HCV : ∀ w1 : World, Below w.heap.size w w1 → Hid (Calls Tryz.prog 21 #[dval C nc cc S ns cs lp] w1 fun e w' => e = .returned (.bool (gvalB vss s lp)) ∧ Below w1.heap.size w1 w') :=
    fun w1 hb => gvalid_any C S nc cc ns cs lp vss s w1 (hC.keep hb) (hS.keep hb) hns hnc hfl
  go_enter Tryz.func19, Tryz.ntmps19
  go_upto_region 1 with fail
  generalize (w.alloc (cbox C nc cc S ns cs lp)).alloc (.cells #[.slice none 0 0, .slice none 0 0, .int .i64 0] 24) = wA at hd hb0 hr hrf hsz ⊢
  obtain ⟨g1, hg1⟩ : ∃ g1, w.heap.size + 1 = g1 := ⟨_, rfl⟩
  rw [hg1] at hr hrf ⊢
  have hlt1 : w.heap.size < g1 := by omega
  clear hg1 hsz hsz1
  have HRF := Lib.hid hrf
  obtain ⟨r0, r1, r2, rlt⟩ := hr
  obtain ⟨d0, d1, d2, dlt⟩ := hd
  clear hrf
  cases h1 : gvalB vss s lp with
  | false =>
    rw [h1] at HCV
    have HP : Hid (∀ e w', DiaNo 1 w e w' → DiaPost vss s lp ns w e w') := fun e w' h => by unfold DiaPost; rw [if_pos h1]; exact h
    clear h1 hC hS hls
    go_wp2_with (go_at_call 21; ((with_reducible refine (HCV _ hb0).out.mono ?_); rintro e w1 ⟨rfl, hb1⟩; have q0 := (hb1.cell (p := ⟨g1, 0, none⟩) rlt).trans r0; have q1 := (hb1.cell (p := ⟨g1, 1, none⟩) rlt).trans r1; have q2 := (hb1.cell (p := ⟨g1, 2, none⟩) rlt).trans r2; have f0 := (hb1.frozen (p := ⟨g1, 0, none⟩) rlt).trans (HRF.out 0); have f1 := (hb1.frozen (p := ⟨g1, 1, none⟩) rlt).trans (HRF.out 1); have f2 := (hb1.frozen (p := ⟨g1, 2, none⟩) rlt).trans (HRF.out 2)))
    obtain ⟨k0, k1, k2⟩ := set3_cells w1 g1 (.slice none 0 0) (.slice none 0 0) (.int .i64 0) q0 q1 q2
    have hbF := set3_below (hb0.trans (hb1.mono hb0.size)) (Nat.le_of_lt hlt1) (.slice none 0 0) (.slice none 0 0) (.int .i64 0)
    exact bodyPost_ret (v := .tuple #[dval none 0 0 none 0 0 0, .int .i64 1]) (by simp [results, Tryz.results19, go_sem, k0, k1, k2]) rfl (HP.out _ _ ⟨rfl, hbF⟩)
  | true =>
    rw [h1] at HCV
    have h64 : ns ≤ 64 := by
      have h2 := h1
      unfold gvalB at h2
      simp only [Bool.and_eq_true] at h2
      have := (glimB_out h2.1.1).1
      omega
    have HC2 : ∀ w1 : World, Below w.heap.size w w1 → Hid (Calls Tryz.prog 46 #[dval C nc cc S ns cs lp] w1 fun e w' => ∃ g, w1.heap.size ≤ g ∧ e = .returned (.slice (some ⟨g, 0, none⟩) (4 * ns) (4 * ns)) ∧ RI w' (some ⟨g, 0, none⟩) (4 * ns) (mateL s vss) ∧ Below w1.heap.size w1 w') :=
      fun w1 hb => matesC_any (hC.keep hb) (hS.keep hb) h1
    have HC3 : ∀ (w1 : World) (g : Nat), RI w1 (some ⟨g, 0, none⟩) (4 * ns) (mateL s vss) → Hid (Calls Tryz.prog 47 #[.slice (some ⟨g, 0, none⟩) (4 * ns) (4 * ns)] w1 fun e w' => e = .returned (.int .i64 (genC vss s)) ∧ Below w1.heap.size w1 w') :=
      fun w1 g hm => genusC_any hls hm h1
    have CC : ∀ W : World, Below w.heap.size w W → Hid (Calls Tryz.prog 34 #[.slice S ns cs] W (ClPost W ns s)) := fun W hb => sclone_any S ns cs s W (hS.keep hb) (by omega)
    by_cases hg : genC vss s = 0
    · have HP : Hid (∀ e w', DiaYes vss s lp ns w e w' → DiaPost vss s lp ns w e w') := fun e w' h => by unfold DiaPost; rw [if_neg (by rw [h1]; simp), if_neg (by simp [hg])]; exact h
      rw [hg] at HC3
      clear h1 hC hS hls hg
      go_upto_region 6 with (first
        | (go_at_call 21; ((with_reducible refine (HCV _ hb0).out.mono ?_); rintro e w1 ⟨rfl, hb1⟩; have hb01 := below_step hb0 hb1; have c0 := (hb1.cell (p := ⟨w.heap.size, 0, none⟩) dlt).trans d0; have c1 := (hb1.cell (p := ⟨w.heap.size, 1, none⟩) dlt).trans d1; have c2 := (hb1.cell (p := ⟨w.heap.size, 2, none⟩) dlt).trans d2))
        | (go_at_call 46; ((with_reducible refine (HC2 _ hb01).out.mono ?_); rintro e w2 ⟨gR, hgR, rfl, hri, hb2⟩))
        | (go_at_call 47; ((with_reducible refine (HC3 _ _ hri).out.mono ?_); rintro e w3 ⟨rfl, hb3⟩)))
      have hbX := below_step hb01 (below_step hb2 hb3)
      have hb13 := below_step hb2 hb3
      have hbA3 := below_step hb1 hb13
      have e1 := (hb13.cell (p := ⟨w.heap.size, 1, none⟩) (Nat.lt_of_lt_of_le dlt hb1.size)).trans c1
      have e2 := (hb13.cell (p := ⟨w.heap.size, 2, none⟩) (Nat.lt_of_lt_of_le dlt hb1.size)).trans c2
      have elt := Nat.lt_of_lt_of_le dlt hbA3.size
      have s0 := (hbA3.cell (p := ⟨g1, 0, none⟩) rlt).trans r0
      have s1 := (hbA3.cell (p := ⟨g1, 1, none⟩) rlt).trans r1
      have s2 := (hbA3.cell (p := ⟨g1, 2, none⟩) rlt).trans r2
      have hsf : ∀ i, w3.frozen? ⟨g1, i, none⟩ = false := fun i => (hbA3.frozen (p := ⟨g1, i, none⟩) rlt).trans (HRF.out i)
      have slt := Nat.lt_of_lt_of_le rlt hbA3.size
      have hgR1 : g1 < gR := Nat.lt_of_lt_of_le rlt (Nat.le_trans hb1.size hgR)
      have HRI := Lib.hid (hri.keep hb3)
      have HSF := Lib.hid hsf
      have CC' : ∀ W : World, Below w3.heap.size w3 W → Hid (Calls Tryz.prog 34 #[.slice S ns cs] W (ClPost W ns s)) := fun W hb => CC W (below_step hbX hb)
      have hbD : Below w3.heap.size w3 w3.drew := (Below.refl _ _).drew
      clear hri hsf r0 r1 r2 d0 d1 d2 c0 c1 c2 HRF CC HCV HC2 HC3
      go_region_held3 (fun w' => w'.cell? ⟨w.heap.size, 1, none⟩ = some (.slice S ns cs) ∧ w'.cell? ⟨w.heap.size, 2, none⟩ = some (.int .i64 lp))
        (first
          | go_keep
          | with_reducible exact ⟨(hbB.cell (p := ⟨w.heap.size, 1, none⟩) elt).trans e1, (hbB.cell (p := ⟨w.heap.size, 2, none⟩) elt).trans e2⟩
          | with_reducible exact ⟨(set3_far w4 g1 _ _ _ (Nat.ne_of_gt hlt1) 1).trans ((hbB.cell (p := ⟨w.heap.size, 1, none⟩) elt).trans e1), (set3_far w4 g1 _ _ _ (Nat.ne_of_gt hlt1) 2).trans ((hbB.cell (p := ⟨w.heap.size, 2, none⟩) elt).trans e2)⟩)
        (first
          | (go_at_call 34; ((with_reducible refine (CC' _ hbD).out.mono ?_); rintro e w4 ⟨P, pc, rfl, ho1, hb4⟩; have hbB := below_step hbD hb4; have q0 := (hbB.cell (p := ⟨g1, 0, none⟩) slt).trans s0; have q1 := (hbB.cell (p := ⟨g1, 1, none⟩) slt).trans s1; have q2 := (hbB.cell (p := ⟨g1, 2, none⟩) slt).trans s2; have f0 := (hbB.frozen (p := ⟨g1, 0, none⟩) slt).trans (HSF.out 0); have f1 := (hbB.frozen (p := ⟨g1, 1, none⟩) slt).trans (HSF.out 1); have f2 := (hbB.frozen (p := ⟨g1, 2, none⟩) slt).trans (HSF.out 2))))
      all_goals
        obtain ⟨k0, k1, k2⟩ := set3_cells w4 g1 (.slice P ns pc) (.slice (some ⟨gR, 0, none⟩) (4 * ns) (4 * ns)) (.int .i64 lp) q0 q1 q2
        have hbF := set3_below (hbX.trans (hbB.mono hbX.size)) (Nat.le_of_lt hlt1) (.slice P ns pc) (.slice (some ⟨gR, 0, none⟩) (4 * ns) (4 * ns)) (.int .i64 lp)
        have hr1 := (HRI.out.keep hbB).set3 (g := g1) (fun b off e => by have := Option.some.inj e; injection this with e1 _ _; omega) (.slice P ns pc) (.slice (some ⟨gR, 0, none⟩) (4 * ns) (4 * ns)) (.int .i64 lp)
        have hr2 := ho1.ri.set3 (g := g1) (fun b off e => by
          rcases ho1.form with ⟨h1, _⟩ | ⟨g, cap, h1, h2, _⟩
          · injection h1 with h1 _ _; rw [h1] at e; cases e
          · injection h1 with h1 _ _; rw [h1] at e
            have := Option.some.inj e
            injection this with e1 _ _
            have h3 : w3.heap.size ≤ w3.drew.heap.size := Nat.le_refl _
            omega) (.slice P ns pc) (.slice (some ⟨gR, 0, none⟩) (4 * ns) (4 * ns)) (.int .i64 lp)
        have HQ := Lib.hid (HP.out (.returned (.tuple #[dval P ns pc (some ⟨gR, 0, none⟩) (4 * ns) (4 * ns) lp, .int .i64 0])) (Go.Proofs.YtdacjnmfmhkpiaaGreatDoor.set3 w4 g1 (.slice P ns pc) (.slice (some ⟨gR, 0, none⟩) (4 * ns) (4 * ns)) (.int .i64 lp)) ⟨P, pc, some ⟨gR, 0, none⟩, rfl, hr2, hr1, hbF⟩)
        clear hbF hr1 hr2
        go_wp2
        exact bodyPost_ret (v := .tuple #[dval P ns pc (some ⟨gR, 0, none⟩) (4 * ns) (4 * ns) lp, .int .i64 0]) (by simp [results, Tryz.results19, go_sem, k0, k1, k2]) rfl HQ.out
    · have HP : Hid (∀ e w', DiaNo 7 w e w' → DiaPost vss s lp ns w e w') := fun e w' h => by unfold DiaPost; rw [if_neg (by rw [h1]; simp), if_pos hg]; exact h
      have hgn : (genC vss s != 0) = true := by simp only [bne_iff_ne, ne_eq]; exact hg
      generalize genC vss s = gg at *
      clear h1 hC hS hls hg CC
      go_wp2_with (first
        | (go_at_call 21; ((with_reducible refine (HCV _ hb0).out.mono ?_); rintro e w1 ⟨rfl, hb1⟩; have hb01 := below_step hb0 hb1; have c0 := (hb1.cell (p := ⟨w.heap.size, 0, none⟩) dlt).trans d0; have c1 := (hb1.cell (p := ⟨w.heap.size, 1, none⟩) dlt).trans d1; have c2 := (hb1.cell (p := ⟨w.heap.size, 2, none⟩) dlt).trans d2))
        | (go_at_call 46; ((with_reducible refine (HC2 _ hb01).out.mono ?_); rintro e w2 ⟨gR, hgR, rfl, hri, hb2⟩))
        | (go_at_call 47; ((with_reducible refine (HC3 _ _ hri).out.mono ?_); rintro e w3 ⟨rfl, hb3⟩; have hbA3 := below_step hb1 (below_step hb2 hb3); have q0 := (hbA3.cell (p := ⟨g1, 0, none⟩) rlt).trans r0; have q1 := (hbA3.cell (p := ⟨g1, 1, none⟩) rlt).trans r1; have q2 := (hbA3.cell (p := ⟨g1, 2, none⟩) rlt).trans r2; have f0 := (hbA3.frozen (p := ⟨g1, 0, none⟩) rlt).trans (HRF.out 0); have f1 := (hbA3.frozen (p := ⟨g1, 1, none⟩) rlt).trans (HRF.out 1); have f2 := (hbA3.frozen (p := ⟨g1, 2, none⟩) rlt).trans (HRF.out 2))))
      obtain ⟨k0, k1, k2⟩ := set3_cells w3 g1 (.slice none 0 0) (.slice none 0 0) (.int .i64 0) q0 q1 q2
      have hbF := set3_below (hb0.trans (hbA3.mono hb0.size)) (Nat.le_of_lt hlt1) (.slice none 0 0) (.slice none 0 0) (.int .i64 0)
      exact bodyPost_ret (v := .tuple #[dval none 0 0 none 0 0 0, .int .i64 7]) (by simp [results, Tryz.results19, go_sem, k0, k1, k2]) rfl (HP.out _ _ ⟨rfl, hbF⟩)

end Go.Proofs.YtdacjnmfmhkpiaaGreatDoor

/- Walk: Components. -/
namespace Go.Proofs.YtdacjnmfmhkpiaaGreatDoor
open Go.RowKit

set_option maxHeartbeats 1600000 in
theorem components_any (A B : Option Addr) (ns cs nm cm : Nat) (lp : Int) (signs mate : List Int) (w : World) (h : DV w A ns B nm signs mate) :
    Calls Tryz.prog 23 #[dval A ns cs B nm cm lp] w fun e w' => e = .returned (.int .i64 (compM signs mate lp)) ∧ Below w.heap.size w w' := by
  have hd := DB.new w A ns cs B nm cm lp
  obtain ⟨d0, d1, d2, dlt⟩ := hd
  have hb0 := below_alloc w (dbox A ns cs B nm cm lp)
  have hls := h.hs.1
  have hlm := h.hm.1
  cases hv : validB signs mate lp with
  | false =>
    have e : compM signs mate lp = 0 := by simp [compM, hv]
    rw [e]
    have CV := Lib.hid ((h.keep hb0).valid cs cm lp false hv)
    clear e hv hls hlm
    go_enter Tryz.func23, Tryz.ntmps23
    go_wp2_with (go_at_call 18; ((with_reducible refine CV.out.mono ?_); rintro e w1 ⟨rfl, hb1⟩))
    go_ret
    exact ⟨rfl, below_step hb0 hb1⟩
  | true =>
    have CV := Lib.hid ((h.keep hb0).valid cs cm lp true hv)
    obtain ⟨v1, v2, v3, v4⟩ := validB_out hv
    rw [hls, hlm] at v1
    obtain ⟨l1, l2, l3, l4⟩ := limB_out v1
    have hsl := strandsM_le (signs := signs) (mate := mate) (lp := lp)
    rw [compM_add hv]
    have H := Lib.hid h
    have CS : ∀ W : World, Below (w.alloc (dbox A ns cs B nm cm lp)).heap.size (w.alloc (dbox A ns cs B nm cm lp)) W → Hid (Calls Tryz.prog 35 #[dval A ns cs B nm cm lp] W (CycsPost W (strandsM signs mate lp))) := fun W hb =>
      strands_any A B ns cs nm cm lp signs mate W (H.out.keep (below_step hb0 hb))
    generalize strandsM signs mate lp = xss at *
    have hwr : IntKind.i64.wrap ((xss.length : Int) + lp) = (xss.length : Int) + lp := IntWalk.i64_in _ (by omega)
    clear hv hls hlm v1 v2 v3 v4 l1 l2 h
    go_enter Tryz.func23, Tryz.ntmps23
    go_upto_region 3 with (go_at_call 18; ((with_reducible refine CV.out.mono ?_); rintro e w1 ⟨rfl, hb1⟩))
    have c0 := (hb1.cell (p := ⟨w.heap.size, 0, none⟩) dlt).trans d0
    have c1 := (hb1.cell (p := ⟨w.heap.size, 1, none⟩) dlt).trans d1
    have c2 := (hb1.cell (p := ⟨w.heap.size, 2, none⟩) dlt).trans d2
    have wlt := Nat.lt_of_lt_of_le dlt hb1.size
    have hbD : Below w1.heap.size w1 w1.drew := (Below.refl _ _).drew
    go_region_held3 (fun w' => w'.cell? ⟨w.heap.size, 0, none⟩ = some (.slice A ns cs) ∧ w'.cell? ⟨w.heap.size, 1, none⟩ = some (.slice B nm cm) ∧ w'.cell? ⟨w.heap.size, 2, none⟩ = some (.int .i64 lp))
      (first
        | go_keep
        | exact ⟨(hbB.cell (p := ⟨w.heap.size, 0, none⟩) wlt).trans c0, (hbB.cell (p := ⟨w.heap.size, 1, none⟩) wlt).trans c1, (hbB.cell (p := ⟨w.heap.size, 2, none⟩) wlt).trans c2⟩)
      (first
        | (go_at_call 35; ((with_reducible refine (CS _ (below_step hb1 hbD)).out.mono ?_); rintro e w2 ⟨v, rfl, hov, hb2⟩; have hbB := below_step hbD hb2; obtain ⟨Av, cv, rfl⟩ := hov.form)))
    go_wp2
    go_ret
    exact ⟨rfl, below_step hb0 (below_step hb1 hbB)⟩

end Go.Proofs.YtdacjnmfmhkpiaaGreatDoor
