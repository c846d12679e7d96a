import Derived.Test.YtdacjnmfmhkpiaaGreatDoorD20
import Derived.Test.YtdacjnmfmhkpiaaGreatDoorD24
import Derived.Test.YtdacjnmfmhkpiaaGreatDoorD25
import Derived.Test.YtdacjnmfmhkpiaaGreatDoorD26
import Derived.Test.YtdacjnmfmhkpiaaGreatDoorCards
import Derived.Test.YtdacjnmfmhkpiaaGreatDoorD17
import Derived.Test.YtdacjnmfmhkpiaaGreatDoorD05
import Derived.LaidMore
import Derived.LaidHandle
import Derived.OpenShut
import Derived.Stop.Joined
import Derived.Stop.LaidErr
/- Walk: the law GaussDraws. -/
namespace Go.Proofs.YtdacjnmfmhkpiaaGreatDoor
open Go.ChangeShapes Go.WideShapes Go.ChangeAt Go.RowKit Go.Joins

theorem mateL_in {vss : List (List Vis)} {s : List Int} {lp : Int} (hv : gvalB vss s lp = true) : ∀ z ∈ mateL s vss, inI z := fun z hz => by
  obtain ⟨⟨l1, _, _⟩, _, v3⟩ := gval_out hv
  unfold mateL at hz
  obtain ⟨h, hh, rfl⟩ := List.mem_map.1 hz
  have := (mAll_invol s v3).lt h (by simpa using hh)
  unfold inI
  omega
theorem DB.all {w : World} {g : Nat} {A : Option Addr} {ns cs : Nat} {B : Option Addr} {nm cm : Nat} {lp : Int} (h : DB w g A ns cs B nm cm lp) {W : World} (hb : Below w.heap.size w W) : W.cell? ⟨g, 0, none⟩ = some (.slice A ns cs) ∧ W.cell? ⟨g, 1, none⟩ = some (.slice B nm cm) ∧ W.cell? ⟨g, 2, none⟩ = some (.int .i64 lp) := ⟨(h.keep hb).1, (h.keep hb).2.1, (h.keep hb).2.2.1⟩

set_option maxHeartbeats 6400000 in
set_option maxRecDepth 100000 in
theorem draws_walk (C S : Option Addr) (nc cc ns cs : Nat) (lp : Int) (vss : List (List Vis)) (s : List Int) (w : World) (hC : RVV w C nc vss) (hS : RI w S ns s) (hns : ns ≤ 9223372036854775807) (hnc : nc ≤ 140737488351232) (hll : ∀ j, (vss.getD j []).length ≤ 140737488351232) (ht : TabW w) :
    Calls Tryz.prog 5 #[dval C nc cc S ns cs lp] w fun e w' => e = .returned (.bool true) ∧ Below w.heap.size w w' := by
  have hd := DB.newT w C nc cc S ns cs lp 28
  have hb0 := below_alloc w (cbox C nc cc S ns cs lp)
  have HTW : ∀ W, Below w.heap.size w W → Hid (Calls Tryz.prog 12 #[] W fun e w' => e = .returned (.bool true) ∧ Below W.heap.size W w') := fun W hb => gawake_any W (ht.keep hb)
  have HD := Lib.hid hd
  obtain ⟨d0, d1, d2, dlt⟩ := hd
  cases hf : fewB vss ns nc with
  | false =>
    have CF : ∀ W, Below w.heap.size w W → Hid (Calls Tryz.prog 24 #[dval C nc cc S ns cs lp] W fun e w' => e = .returned (.bool false) ∧ Below W.heap.size W w') := fun W hb => few_all C S nc cc ns cs lp vss W (hC.keep hb) hns hnc hll false hf
    clear hf hC hS hns hnc hll ht HD
    go_enter Tryz.func5, Tryz.ntmps5
    go_wp2_with (first
      | (go_at_call 12; ((with_reducible refine (HTW _ hb02).out.mono ?_); rintro e w3 ⟨rfl, hb3⟩))
      | (go_at_call 12; ((with_reducible refine (HTW _ hb0).out.mono ?_); rintro e w1 ⟨rfl, hb1⟩; have hb01 := below_step hb0 hb1; have e0 := (hb1.cell (p := ⟨w.heap.size, 0, none⟩) dlt).trans d0; have e1 := (hb1.cell (p := ⟨w.heap.size, 1, none⟩) dlt).trans d1; have e2 := (hb1.cell (p := ⟨w.heap.size, 2, none⟩) dlt).trans d2))
      | (go_at_call 24; ((with_reducible refine (CF _ hb01).out.mono ?_); rintro e w2 ⟨rfl, hb2⟩; have hb02 := below_step hb01 hb2)))
    go_ret
    exact ⟨rfl, below_step hb02 hb3⟩
  | true =>
    have CF : ∀ W, Below w.heap.size w W → Hid (Calls Tryz.prog 24 #[dval C nc cc S ns cs lp] W fun e w' => e = .returned (.bool true) ∧ Below W.heap.size W w') := fun W hb => few_all C S nc cc ns cs lp vss W (hC.keep hb) hns hnc hll true hf
    obtain ⟨f1, f2, f3⟩ := fewB_out hf
    have hrl : ∀ j, (vss.getD j []).length ≤ 42 := fun j => by have := row_flat (vss := vss) j; omega
    have CP : ∀ W : World, Below w.heap.size w W → Hid (Calls Tryz.prog 16 #[dval C nc cc S ns cs lp] W (PlainPost vss S nc ns cs lp W)) := fun W hb =>
      plain_any C S nc cc ns cs lp vss W (hC.keep hb) (by omega) (fun j => by have := hrl j; omega)
    have CV : ∀ (A : Option Addr) (c : Nat) (W : World), Below w.heap.size w W → RVV W A nc vss → Hid (Calls Tryz.prog 25 #[dval A nc c S ns cs lp] W fun e w' => e = .returned (.bool (gvalB vss s lp)) ∧ Below W.heap.size W w') := fun A c W hb h1 =>
      rgvalid_any A S nc c ns cs lp vss s W h1 (hS.keep hb) (by omega) (by omega) (by omega)
    have CGV : ∀ W : World, Below w.heap.size w W → Hid (Calls Tryz.prog 21 #[dval C nc cc S ns cs lp] W fun e w' => e = .returned (.bool (gvalB vss s lp)) ∧ Below W.heap.size W w') :=
      fun W hb => gvalid_any C S nc cc ns cs lp vss s W (hC.keep hb) (hS.keep hb) (by omega) (by omega) (by omega)
    have CGn : ∀ W : World, Below w.heap.size w W → Hid (Calls Tryz.prog 20 #[dval C nc cc S ns cs lp] W fun e w' => e = .returned (if gvalB vss s lp = true then .tuple #[.int .i64 (genC vss s), .int .i64 0] else .tuple #[.int .i64 0, .int .i64 1]) ∧ Below W.heap.size W w') :=
      fun W hb => gGenus_any C S nc cc ns cs lp vss s W (hC.keep hb) (hS.keep hb) (by omega) (by omega) (by omega)
    have CDi : ∀ W : World, Below w.heap.size w W → Calls Tryz.prog 19 #[dval C nc cc S ns cs lp] W (DiaPost vss s lp ns W) :=
      fun W hb => gDiagram_any C S nc cc ns cs lp vss s W (hC.keep hb) (hS.keep hb) (by omega) (by omega) (by omega)
    have HC := Lib.hid hC
    have HS := Lib.hid hS
    clear hns hnc hll hf
    cases hv : gvalB vss s lp with
    | false =>
      have CD : ∀ W : World, Below w.heap.size w W → Hid (Calls Tryz.prog 19 #[dval C nc cc S ns cs lp] W (DiaNo 1 W)) := fun W hb => (CDi W hb).mono fun e w' h => by unfold DiaPost at h; rw [if_pos hv] at h; exact h
      rw [hv] at CV CGV CGn
      simp only [Bool.false_eq_true, if_false] at CGn
      clear hv ht hC hS hrl f1 f2 f3 CDi
      go_enter Tryz.func5, Tryz.ntmps5
      go_upto_region 4 with (first
        | (go_at_call 12; ((with_reducible refine (HTW _ hb0).out.mono ?_); rintro e w1 ⟨rfl, hb1⟩; have hb01 := below_step hb0 hb1; obtain ⟨e0, e1, e2⟩ := HD.out.all hb1))
        | (go_at_call 24; ((with_reducible refine (CF _ hb01).out.mono ?_); rintro e w2 ⟨rfl, hb2⟩; have hb02 := below_step hb01 hb2; have hb12 := below_step hb1 hb2; obtain ⟨g0, g1, g2⟩ := HD.out.all hb12))
        | (go_at_call 16; ((with_reducible refine (CP _ hb02).out.mono ?_); rintro e w4 ⟨A4, c4, rfl, hR4, hb4⟩; have hb4' := below_step hb4 (below_alloc w4 (.cells #[.slice A4 nc c4, .slice S ns cs, .int .i64 lp] 36)); have hb04 := below_step hb02 hb4'; have hb14 := below_step hb12 hb4'; have hP4 := DB.newT w4 A4 nc c4 S ns cs lp 36; have hR4' := hR4.keep (below_alloc w4 (.cells #[.slice A4 nc c4, .slice S ns cs, .int .i64 lp] 36)))))
      obtain ⟨gP, hgP⟩ : ∃ gP, w4.heap.size = gP := ⟨_, rfl⟩
      rw [hgP] at hP4 ⊢
      generalize w4.alloc (.cells #[.slice A4 nc c4, .slice S ns cs, .int .i64 lp] 36) = wP at *
      have HDP := Lib.hid (HD.out.keep hb14)
      have HP := Lib.hid hP4
      have HR := Lib.hid hR4'
      obtain ⟨x0, x1, x2⟩ := HD.out.all hb14
      clear hgP hR4 hR4' hP4 hb1 hb2 hb4 hb4' hb12 hb14 d0 d1 d2 e0 e1 e2 g0 g1 g2 hb01 hb02 hb0 dlt CF CP HTW HD
      go_upto_region 6 with (first
        | (go_at_call 20; ((with_reducible refine (CGn _ hb04).out.mono ?_); rintro e w5 ⟨rfl, hb5⟩; have hb05 := below_step hb04 hb5; obtain ⟨y0, y1, y2⟩ := HDP.out.all hb5))
        | (go_at_call 19; ((with_reducible refine (CD _ hb05).out.mono ?_); rintro e w6 ⟨rfl, hb6⟩; have hb6' := below_step hb6 (below_alloc w6 (dbox none 0 0 none 0 0 0)); have hb06 := below_step hb05 hb6'; have hb46 := below_step hb5 hb6'; have hX6 := DB.new w6 none 0 0 none 0 0 0)))
      obtain ⟨gX, hgX⟩ : ∃ gX, w6.heap.size = gX := ⟨_, rfl⟩
      rw [hgX] at hX6 ⊢
      generalize w6.alloc (dbox none 0 0 none 0 0 0) = wX at *
      have HZC := Lib.hid (HDP.out.keep hb46)
      have HZP := Lib.hid (HP.out.keep hb46)
      have HZR := Lib.hid (HR.out.keep hb46)
      have HZX := Lib.hid hX6
      have hbD : Below wX.heap.size wX wX.drew := (Below.refl _ _).drew
      have HZ : Hid (∀ W, Below wX.heap.size wX W → (W.cell? ⟨w.heap.size, 0, none⟩ = some (.slice C nc cc) ∧ W.cell? ⟨w.heap.size, 1, none⟩ = some (.slice S ns cs) ∧ W.cell? ⟨w.heap.size, 2, none⟩ = some (.int .i64 lp)) ∧ (W.cell? ⟨gP, 0, none⟩ = some (.slice A4 nc c4) ∧ W.cell? ⟨gP, 1, none⟩ = some (.slice S ns cs) ∧ W.cell? ⟨gP, 2, none⟩ = some (.int .i64 lp))) := fun W hb => ⟨HZC.out.all hb, HZP.out.all hb⟩
      obtain ⟨⟨z0, z1, z2⟩, ⟨z3, z4, z5⟩⟩ := HZ.out wX (Below.refl _ _)
      clear hgX hX6 x0 x1 x2 y0 y1 y2 hb5 hb6 hb6' hb46 hb05 hb04 CGn CD HDP HP HR
      go_region_held3 (fun w' => (w'.cell? ⟨w.heap.size, 0, none⟩ = some (.slice C nc cc) ∧ w'.cell? ⟨w.heap.size, 1, none⟩ = some (.slice S ns cs) ∧ w'.cell? ⟨w.heap.size, 2, none⟩ = some (.int .i64 lp)) ∧ (w'.cell? ⟨gP, 0, none⟩ = some (.slice A4 nc c4) ∧ w'.cell? ⟨gP, 1, none⟩ = some (.slice S ns cs) ∧ w'.cell? ⟨gP, 2, none⟩ = some (.int .i64 lp)))
        (first
          | with_reducible exact HZ.out _ zzB
          | with_reducible exact HZ.out _ zzA
          | with_reducible exact HZ.out _ hbD
          | go_keep)
        (first
          | (go_at_call 25; ((with_reducible refine (CV A4 c4 _ (below_step hb06 zzA) (HZR.out.keep zzA)).out.mono ?_); rintro e w8 ⟨rfl, hb8⟩; have zzB := below_step zzA hb8))
          | (go_at_call 21; ((with_reducible refine (CGV _ (below_step hb06 zzA)).out.mono ?_); rintro e w8 ⟨rfl, hb8⟩; have zzB := below_step zzA hb8))
          | (go_at_call 25; ((with_reducible refine (CV A4 c4 _ (below_step hb06 hbD) (HZR.out.keep hbD)).out.mono ?_); rintro e w7 ⟨rfl, hb7⟩; have zzA := below_step hbD hb7))
          | (go_at_call 21; ((with_reducible refine (CGV _ (below_step hb06 hbD)).out.mono ?_); rintro e w7 ⟨rfl, hb7⟩; have zzA := below_step hbD hb7)))
      all_goals
        obtain ⟨a0, a1, a2⟩ := HZP.out.all zzB
        obtain ⟨m0, m1, m2⟩ := HZX.out.all zzB
        have hb08 := below_step hb06 zzB
        have CVx := CV A4 c4 _ hb08 (HZR.out.keep zzB)
        clear z0 z1 z2 z3 z4 z5
        go_wp2_with (go_at_call 25; ((with_reducible refine CVx.out.mono ?_); rintro e w9 ⟨rfl, hb9⟩))
        go_ret
        exact ⟨rfl, below_step hb08 hb9⟩
    | true =>
      have CGr : ∀ (A : Option Addr) (c : Nat) (W : World), Below w.heap.size w W → RVV W A nc vss → Hid (Calls Tryz.prog 26 #[dval A nc c S ns cs lp] W fun e w' => e = .returned (.int .i64 (genC vss s)) ∧ Below W.heap.size W w') := fun A c W hb h1 =>
        rgenus_any A S nc c ns cs lp vss s W h1 (hS.keep hb) hv
      by_cases hg : genC vss s = 0
      · obtain ⟨nm, hnm⟩ : ∃ nm, 4 * ns = nm := ⟨_, rfl⟩
        have hdv := draw_valid hv hg
        have hmi := mateL_in hv
        obtain ⟨⟨l1, _, _⟩, v2, v3⟩ := gval_out hv
        have hls := hS.1
        have hin := visB_inR v3
        rw [hls] at hin
        have CD : ∀ W : World, Below w.heap.size w W → Hid (Calls Tryz.prog 19 #[dval C nc cc S ns cs lp] W fun e w' => ∃ P pc R, e = .returned (.tuple #[dval P ns pc R nm nm lp, .int .i64 0]) ∧ RI w' P ns s ∧ RI w' R nm (mateL s vss) ∧ Below W.heap.size W w') := fun W hb => (CDi W hb).mono fun e w' h => by
          unfold DiaPost at h
          rw [if_neg (by rw [hv]; simp), if_neg (by simp [hg])] at h
          unfold DiaYes at h
          rw [hnm] at h
          exact h
        have CRD : ∀ (A : Option Addr) (c : Nat) (W : World), Below w.heap.size w W → RVV W A nc vss → Hid (Calls Tryz.prog 28 #[dval A nc c S ns cs lp] W fun e w' => ∃ P pc R, e = .returned (dval P ns pc R nm nm lp) ∧ RI w' P ns s ∧ RI w' R nm (mateL s vss) ∧ Below W.heap.size W w') := fun A c W hb h1 =>
          (rdiagram_any A S nc c ns cs lp vss s W h1 (hS.keep hb) (by omega) (by omega) hin (fun j => by have := hrl j; omega)).mono fun e w' h => by unfold RDPost at h; rw [hnm] at h; exact h
        have CE : ∀ (P : Option Addr) (pc : Nat) (R P' : Option Addr) (pc' : Nat) (R' : Option Addr) (W : World), RI W P ns s → RI W R nm (mateL s vss) → RI W P' ns s → RI W R' nm (mateL s vss) → Hid (Calls Tryz.prog 27 #[dval P ns pc R nm nm lp, dval P' ns pc' R' nm nm lp] W fun e w' => e = .returned (.bool true) ∧ Below W.heap.size W w') := fun P pc R P' pc' R' W h1 h2 h3 h4 => by
          have := requal_any P R P' R' ns pc nm nm ns pc' nm nm lp lp _ _ _ _ W h1 h2 h3 h4 (by omega) (by omega) (by omega) (by omega)
          rw [show eqD s (mateL s vss) lp s (mateL s vss) lp = true by simp [eqD]] at this
          exact this
        have CVd : ∀ (P : Option Addr) (pc : Nat) (R : Option Addr) (W : World), RI W P ns s → RI W R nm (mateL s vss) → Hid (Calls Tryz.prog 18 #[dval P ns pc R nm nm lp] W fun e w' => e = .returned (.bool true) ∧ Below W.heap.size W w') := fun P pc R W h1 h2 => valid_all pc nm h1 h2 hmi true hdv
        rw [hv] at CV CGV CGn
        simp only [if_true] at CGn
        rw [hg] at CGn CGr
        clear hdv hmi l1 v2 v3 hls hin hv hg ht hC hS hrl f1 f2 f3 CDi
        by_cases hn0 : ns = 0
        · subst hn0
          obtain rfl : nm = 0 := by omega
          clear hnm
          go_enter Tryz.func5, Tryz.ntmps5
          go_upto_region 4 with (first
            | (go_at_call 12; ((with_reducible refine (HTW _ hb0).out.mono ?_); rintro e w1 ⟨rfl, hb1⟩; have hb01 := below_step hb0 hb1; obtain ⟨e0, e1, e2⟩ := HD.out.all hb1))
            | (go_at_call 24; ((with_reducible refine (CF _ hb01).out.mono ?_); rintro e w2 ⟨rfl, hb2⟩; have hb02 := below_step hb01 hb2; have hb12 := below_step hb1 hb2; obtain ⟨g0, g1, g2⟩ := HD.out.all hb12))
            | (go_at_call 16; ((with_reducible refine (CP _ hb02).out.mono ?_); rintro e w4 ⟨A4, c4, rfl, hR4, hb4⟩; have hb4' := below_step hb4 (below_alloc w4 (.cells #[.slice A4 nc c4, .slice S 0 cs, .int .i64 lp] 36)); have hb04 := below_step hb02 hb4'; have hb14 := below_step hb12 hb4'; have hP4 := DB.newT w4 A4 nc c4 S 0 cs lp 36; have hR4' := hR4.keep (below_alloc w4 (.cells #[.slice A4 nc c4, .slice S 0 cs, .int .i64 lp] 36)))))
          obtain ⟨gP, hgP⟩ : ∃ gP, w4.heap.size = gP := ⟨_, rfl⟩
          rw [hgP] at hP4 ⊢
          generalize w4.alloc (.cells #[.slice A4 nc c4, .slice S 0 cs, .int .i64 lp] 36) = wP at *
          have HDP := Lib.hid (HD.out.keep hb14)
          have HP := Lib.hid hP4
          have HR := Lib.hid hR4'
          obtain ⟨x0, x1, x2⟩ := HD.out.all hb14
          clear hgP hR4 hR4' hP4 hb1 hb2 hb4 hb4' hb12 hb14 d0 d1 d2 e0 e1 e2 g0 g1 g2 hb01 hb02 hb0 dlt CF CP HTW HD
          go_upto_region 6 with (first
            | (go_at_call 20; ((with_reducible refine (CGn _ hb04).out.mono ?_); rintro e w5 ⟨rfl, hb5⟩; have hb05 := below_step hb04 hb5; obtain ⟨y0, y1, y2⟩ := HDP.out.all hb5))
            | (go_at_call 19; ((with_reducible refine (CD _ hb05).out.mono ?_); rintro e w6 ⟨P, pc, R, rfl, hp6, hr6, hb6⟩; have hb6' := below_step hb6 (below_alloc w6 (dbox P 0 pc R 0 0 lp)); have hb06 := below_step hb05 hb6'; have hb46 := below_step hb5 hb6'; have hX6 := DB.new w6 P 0 pc R 0 0 lp; have hp6' := hp6.keep (below_alloc w6 (dbox P 0 pc R 0 0 lp)); have hr6' := hr6.keep (below_alloc w6 (dbox P 0 pc R 0 0 lp)); clear hp6 hr6)))
          obtain ⟨gX, hgX⟩ : ∃ gX, w6.heap.size = gX := ⟨_, rfl⟩
          rw [hgX] at hX6 ⊢
          generalize w6.alloc (dbox P 0 pc R 0 0 lp) = wX at *
          have HZC := Lib.hid (HDP.out.keep hb46)
          have HZP := Lib.hid (HP.out.keep hb46)
          have HZR := Lib.hid (HR.out.keep hb46)
          have HZX := Lib.hid hX6
          have HPX := Lib.hid hp6'
          have HRX := Lib.hid hr6'
          have hbD : Below wX.heap.size wX wX.drew := (Below.refl _ _).drew
          have HZ : Hid (∀ W, Below wX.heap.size wX W → (W.cell? ⟨w.heap.size, 0, none⟩ = some (.slice C nc cc) ∧ W.cell? ⟨w.heap.size, 1, none⟩ = some (.slice S 0 cs) ∧ W.cell? ⟨w.heap.size, 2, none⟩ = some (.int .i64 lp)) ∧ (W.cell? ⟨gP, 0, none⟩ = some (.slice A4 nc c4) ∧ W.cell? ⟨gP, 1, none⟩ = some (.slice S 0 cs) ∧ W.cell? ⟨gP, 2, none⟩ = some (.int .i64 lp))) := fun W hb => ⟨HZC.out.all hb, HZP.out.all hb⟩
          obtain ⟨⟨z0, z1, z2⟩, ⟨z3, z4, z5⟩⟩ := HZ.out wX (Below.refl _ _)
          clear hp6' hr6' hgX hX6 x0 x1 x2 y0 y1 y2 hb5 hb6 hb6' hb46 hb05 hb04 CGn CD HDP HP HR
          go_region_held3 (fun w' => (w'.cell? ⟨w.heap.size, 0, none⟩ = some (.slice C nc cc) ∧ w'.cell? ⟨w.heap.size, 1, none⟩ = some (.slice S 0 cs) ∧ w'.cell? ⟨w.heap.size, 2, none⟩ = some (.int .i64 lp)) ∧ (w'.cell? ⟨gP, 0, none⟩ = some (.slice A4 nc c4) ∧ w'.cell? ⟨gP, 1, none⟩ = some (.slice S 0 cs) ∧ w'.cell? ⟨gP, 2, none⟩ = some (.int .i64 lp)))
            (first
              | with_reducible exact HZ.out _ zzB
              | with_reducible exact HZ.out _ zzA
              | with_reducible exact HZ.out _ hbD
              | go_keep)
            (first
              | (go_at_call 25; ((with_reducible refine (CV A4 c4 _ (below_step hb06 zzA) (HZR.out.keep zzA)).out.mono ?_); rintro e w8 ⟨rfl, hb8⟩; have zzB := below_step zzA hb8))
              | (go_at_call 21; ((with_reducible refine (CGV _ (below_step hb06 zzA)).out.mono ?_); rintro e w8 ⟨rfl, hb8⟩; have zzB := below_step zzA hb8))
              | (go_at_call 25; ((with_reducible refine (CV A4 c4 _ (below_step hb06 hbD) (HZR.out.keep hbD)).out.mono ?_); rintro e w7 ⟨rfl, hb7⟩; have zzA := below_step hbD hb7))
              | (go_at_call 21; ((with_reducible refine (CGV _ (below_step hb06 hbD)).out.mono ?_); rintro e w7 ⟨rfl, hb7⟩; have zzA := below_step hbD hb7)))
          all_goals
            obtain ⟨a0, a1, a2⟩ := HZP.out.all zzB
            obtain ⟨m0, m1, m2⟩ := HZX.out.all zzB
            have hb08 := below_step hb06 zzB
            have CVx := CV A4 c4 _ hb08 (HZR.out.keep zzB)
            clear z0 z1 z2 z3 z4 z5
            go_upto_region 15 with (first
              | (go_at_call 26; ((with_reducible refine CGx.out.mono ?_); rintro e w10 ⟨rfl, hb10⟩; have zzE := below_step zzC hb10))
              | (go_at_call 25; ((with_reducible refine CVx.out.mono ?_); rintro e w9 ⟨rfl, hb9⟩; have zzC := below_step zzB hb9; have hb09 := below_step hb06 zzC; have CGx := CGr A4 c4 _ hb09 (HZR.out.keep zzC); obtain ⟨b0, b1, b2⟩ := HZP.out.all zzC)))
            have hbE : Below wX.heap.size wX w10.drew := zzE.drew
            have HY : Hid (∀ W, Below wX.heap.size wX W → (W.cell? ⟨gX, 0, none⟩ = some (.slice P 0 pc) ∧ W.cell? ⟨gX, 1, none⟩ = some (.slice R 0 0) ∧ W.cell? ⟨gX, 2, none⟩ = some (.int .i64 lp)) ∧ (W.cell? ⟨gP, 0, none⟩ = some (.slice A4 nc c4) ∧ W.cell? ⟨gP, 1, none⟩ = some (.slice S 0 cs) ∧ W.cell? ⟨gP, 2, none⟩ = some (.int .i64 lp))) := fun W hb => ⟨HZX.out.all hb, HZP.out.all hb⟩
            obtain ⟨⟨n0, n1, n2⟩, ⟨n3, n4, n5⟩⟩ := HY.out w10 zzE
            clear a0 a1 a2 b0 b1 b2 m0 m1 m2 CVx CGx hb8 hb9 hb10 hb7 zzA
            go_region_held3 (fun w' => (w'.cell? ⟨gX, 0, none⟩ = some (.slice P 0 pc) ∧ w'.cell? ⟨gX, 1, none⟩ = some (.slice R 0 0) ∧ w'.cell? ⟨gX, 2, none⟩ = some (.int .i64 lp)) ∧ (w'.cell? ⟨gP, 0, none⟩ = some (.slice A4 nc c4) ∧ w'.cell? ⟨gP, 1, none⟩ = some (.slice S 0 cs) ∧ w'.cell? ⟨gP, 2, none⟩ = some (.int .i64 lp)))
              (first
                | with_reducible exact HY.out _ zzH
                | with_reducible exact HY.out _ zzG
                | with_reducible exact HY.out _ zzF
                | with_reducible exact HY.out _ hbE
                | go_keep)
              (first
                | (go_at_call 18; ((with_reducible refine (CVd P pc R _ (HPX.out.keep zzG) (HRX.out.keep zzG)).out.mono ?_); rintro e w13 ⟨rfl, hb13⟩; have zzH := below_step zzG hb13))
                | (go_at_call 27; ((with_reducible refine (CE P pc R P11 p11 R11 _ (HPX.out.keep zzF) (HRX.out.keep zzF) hp11 hr11).out.mono ?_); rintro e w12 ⟨rfl, hb12⟩; have zzG := below_step zzF hb12))
                | (go_at_call 28; ((with_reducible refine (CRD A4 c4 _ (below_step hb06 hbE) (HZR.out.keep hbE)).out.mono ?_); rintro e w11 ⟨P11, p11, R11, rfl, hp11, hr11, hb11⟩; have zzF := below_step hbE hb11)))
            go_wp2
            go_ret
            exact ⟨rfl, below_step hb06 zzH⟩
        · have hz1 : ((ns : Int) == 0) = false := by simp only [beq_eq_false_iff_ne, ne_eq]; omega
          have hz2 : decide ((ns : Int) = 0) = false := by simp only [decide_eq_false_iff_not]; omega
          have hz3 : (ns == 0) = false := by simp only [beq_eq_false_iff_ne, ne_eq]; omega
          have hz4 : decide (ns = 0) = false := by simp only [decide_eq_false_iff_not]; omega
          clear hnm
          go_enter Tryz.func5, Tryz.ntmps5
          go_upto_region 4 with (first
            | (go_at_call 12; ((with_reducible refine (HTW _ hb0).out.mono ?_); rintro e w1 ⟨rfl, hb1⟩; have hb01 := below_step hb0 hb1; obtain ⟨e0, e1, e2⟩ := HD.out.all hb1))
            | (go_at_call 24; ((with_reducible refine (CF _ hb01).out.mono ?_); rintro e w2 ⟨rfl, hb2⟩; have hb02 := below_step hb01 hb2; have hb12 := below_step hb1 hb2; obtain ⟨g0, g1, g2⟩ := HD.out.all hb12))
            | (go_at_call 16; ((with_reducible refine (CP _ hb02).out.mono ?_); rintro e w4 ⟨A4, c4, rfl, hR4, hb4⟩; have hb4' := below_step hb4 (below_alloc w4 (.cells #[.slice A4 nc c4, .slice S ns cs, .int .i64 lp] 36)); have hb04 := below_step hb02 hb4'; have hb14 := below_step hb12 hb4'; have hP4 := DB.newT w4 A4 nc c4 S ns cs lp 36; have hR4' := hR4.keep (below_alloc w4 (.cells #[.slice A4 nc c4, .slice S ns cs, .int .i64 lp] 36)))))
          obtain ⟨gP, hgP⟩ : ∃ gP, w4.heap.size = gP := ⟨_, rfl⟩
          rw [hgP] at hP4 ⊢
          generalize w4.alloc (.cells #[.slice A4 nc c4, .slice S ns cs, .int .i64 lp] 36) = wP at *
          have HDP := Lib.hid (HD.out.keep hb14)
          have HP := Lib.hid hP4
          have HR := Lib.hid hR4'
          obtain ⟨x0, x1, x2⟩ := HD.out.all hb14
          clear hgP hR4 hR4' hP4 hb1 hb2 hb4 hb4' hb12 hb14 d0 d1 d2 e0 e1 e2 g0 g1 g2 hb01 hb02 hb0 dlt CF CP HTW HD
          go_upto_region 6 with (first
            | (go_at_call 20; ((with_reducible refine (CGn _ hb04).out.mono ?_); rintro e w5 ⟨rfl, hb5⟩; have hb05 := below_step hb04 hb5; obtain ⟨y0, y1, y2⟩ := HDP.out.all hb5))
            | (go_at_call 19; ((with_reducible refine (CD _ hb05).out.mono ?_); rintro e w6 ⟨P, pc, R, rfl, hp6, hr6, hb6⟩; have hb6' := below_step hb6 (below_alloc w6 (dbox P ns pc R nm nm lp)); have hb06 := below_step hb05 hb6'; have hb46 := below_step hb5 hb6'; have hX6 := DB.new w6 P ns pc R nm nm lp; have hp6' := hp6.keep (below_alloc w6 (dbox P ns pc R nm nm lp)); have hr6' := hr6.keep (below_alloc w6 (dbox P ns pc R nm nm lp)); clear hp6 hr6)))
          obtain ⟨gX, hgX⟩ : ∃ gX, w6.heap.size = gX := ⟨_, rfl⟩
          rw [hgX] at hX6 ⊢
          generalize w6.alloc (dbox P ns pc R nm nm lp) = wX at *
          have HZC := Lib.hid (HDP.out.keep hb46)
          have HZP := Lib.hid (HP.out.keep hb46)
          have HZR := Lib.hid (HR.out.keep hb46)
          have HZX := Lib.hid hX6
          have HPX := Lib.hid hp6'
          have HRX := Lib.hid hr6'
          have hbD : Below wX.heap.size wX wX.drew := (Below.refl _ _).drew
          have HZ : Hid (∀ W, Below wX.heap.size wX W → (W.cell? ⟨w.heap.size, 0, none⟩ = some (.slice C nc cc) ∧ W.cell? ⟨w.heap.size, 1, none⟩ = some (.slice S ns cs) ∧ W.cell? ⟨w.heap.size, 2, none⟩ = some (.int .i64 lp)) ∧ (W.cell? ⟨gP, 0, none⟩ = some (.slice A4 nc c4) ∧ W.cell? ⟨gP, 1, none⟩ = some (.slice S ns cs) ∧ W.cell? ⟨gP, 2, none⟩ = some (.int .i64 lp))) := fun W hb => ⟨HZC.out.all hb, HZP.out.all hb⟩
          obtain ⟨⟨z0, z1, z2⟩, ⟨z3, z4, z5⟩⟩ := HZ.out wX (Below.refl _ _)
          clear hp6' hr6' hgX hX6 x0 x1 x2 y0 y1 y2 hb5 hb6 hb6' hb46 hb05 hb04 CGn CD HDP HP HR
          go_region_held3 (fun w' => (w'.cell? ⟨w.heap.size, 0, none⟩ = some (.slice C nc cc) ∧ w'.cell? ⟨w.heap.size, 1, none⟩ = some (.slice S ns cs) ∧ w'.cell? ⟨w.heap.size, 2, none⟩ = some (.int .i64 lp)) ∧ (w'.cell? ⟨gP, 0, none⟩ = some (.slice A4 nc c4) ∧ w'.cell? ⟨gP, 1, none⟩ = some (.slice S ns cs) ∧ w'.cell? ⟨gP, 2, none⟩ = some (.int .i64 lp)))
            (first
              | with_reducible exact HZ.out _ zzB
              | with_reducible exact HZ.out _ zzA
              | with_reducible exact HZ.out _ hbD
              | go_keep)
            (first
              | (go_at_call 25; ((with_reducible refine (CV A4 c4 _ (below_step hb06 zzA) (HZR.out.keep zzA)).out.mono ?_); rintro e w8 ⟨rfl, hb8⟩; have zzB := below_step zzA hb8))
              | (go_at_call 21; ((with_reducible refine (CGV _ (below_step hb06 zzA)).out.mono ?_); rintro e w8 ⟨rfl, hb8⟩; have zzB := below_step zzA hb8))
              | (go_at_call 25; ((with_reducible refine (CV A4 c4 _ (below_step hb06 hbD) (HZR.out.keep hbD)).out.mono ?_); rintro e w7 ⟨rfl, hb7⟩; have zzA := below_step hbD hb7))
              | (go_at_call 21; ((with_reducible refine (CGV _ (below_step hb06 hbD)).out.mono ?_); rintro e w7 ⟨rfl, hb7⟩; have zzA := below_step hbD hb7)))
          all_goals
            obtain ⟨a0, a1, a2⟩ := HZP.out.all zzB
            obtain ⟨m0, m1, m2⟩ := HZX.out.all zzB
            have hb08 := below_step hb06 zzB
            have CVx := CV A4 c4 _ hb08 (HZR.out.keep zzB)
            clear z0 z1 z2 z3 z4 z5
            go_upto_region 15 with (first
              | (go_at_call 26; ((with_reducible refine CGx.out.mono ?_); rintro e w10 ⟨rfl, hb10⟩; have zzE := below_step zzC hb10))
              | (go_at_call 25; ((with_reducible refine CVx.out.mono ?_); rintro e w9 ⟨rfl, hb9⟩; have zzC := below_step zzB hb9; have hb09 := below_step hb06 zzC; have CGx := CGr A4 c4 _ hb09 (HZR.out.keep zzC); obtain ⟨b0, b1, b2⟩ := HZP.out.all zzC)))
            have hbE : Below wX.heap.size wX w10.drew := zzE.drew
            have HY : Hid (∀ W, Below wX.heap.size wX W → (W.cell? ⟨gX, 0, none⟩ = some (.slice P ns pc) ∧ W.cell? ⟨gX, 1, none⟩ = some (.slice R nm nm) ∧ W.cell? ⟨gX, 2, none⟩ = some (.int .i64 lp)) ∧ (W.cell? ⟨gP, 0, none⟩ = some (.slice A4 nc c4) ∧ W.cell? ⟨gP, 1, none⟩ = some (.slice S ns cs) ∧ W.cell? ⟨gP, 2, none⟩ = some (.int .i64 lp))) := fun W hb => ⟨HZX.out.all hb, HZP.out.all hb⟩
            obtain ⟨⟨n0, n1, n2⟩, ⟨n3, n4, n5⟩⟩ := HY.out w10 zzE
            clear a0 a1 a2 b0 b1 b2 m0 m1 m2 CVx CGx hb8 hb9 hb10 hb7 zzA
            go_region_held3 (fun w' => (w'.cell? ⟨gX, 0, none⟩ = some (.slice P ns pc) ∧ w'.cell? ⟨gX, 1, none⟩ = some (.slice R nm nm) ∧ w'.cell? ⟨gX, 2, none⟩ = some (.int .i64 lp)) ∧ (w'.cell? ⟨gP, 0, none⟩ = some (.slice A4 nc c4) ∧ w'.cell? ⟨gP, 1, none⟩ = some (.slice S ns cs) ∧ w'.cell? ⟨gP, 2, none⟩ = some (.int .i64 lp)))
              (first
                | with_reducible exact HY.out _ zzH
                | with_reducible exact HY.out _ zzG
                | with_reducible exact HY.out _ zzF
                | with_reducible exact HY.out _ hbE
                | go_keep)
              (first
                | (go_at_call 18; ((with_reducible refine (CVd P pc R _ (HPX.out.keep zzG) (HRX.out.keep zzG)).out.mono ?_); rintro e w13 ⟨rfl, hb13⟩; have zzH := below_step zzG hb13))
                | (go_at_call 27; ((with_reducible refine (CE P pc R P11 p11 R11 _ (HPX.out.keep zzF) (HRX.out.keep zzF) hp11 hr11).out.mono ?_); rintro e w12 ⟨rfl, hb12⟩; have zzG := below_step zzF hb12))
                | (go_at_call 28; ((with_reducible refine (CRD A4 c4 _ (below_step hb06 hbE) (HZR.out.keep hbE)).out.mono ?_); rintro e w11 ⟨P11, p11, R11, rfl, hp11, hr11, hb11⟩; have zzF := below_step hbE hb11)))
            go_wp2
            go_ret
            exact ⟨rfl, below_step hb06 zzH⟩
      · have CD : ∀ W : World, Below w.heap.size w W → Hid (Calls Tryz.prog 19 #[dval C nc cc S ns cs lp] W (DiaNo 7 W)) := fun W hb => (CDi W hb).mono fun e w' h => by unfold DiaPost at h; rw [if_neg (by rw [hv]; simp), if_pos hg] at h; exact h
        rw [hv] at CV CGV CGn
        simp only [if_true] at CGn
        generalize genC vss s = gn at *
        have hg1 : (gn == 0) = false := by simp only [beq_eq_false_iff_ne, ne_eq]; exact hg
        have hg2 : decide (gn = 0) = false := by simp only [decide_eq_false_iff_not]; exact hg
        clear hv ht hC hS hrl f1 f2 f3 CDi
        go_enter Tryz.func5, Tryz.ntmps5
        go_upto_region 4 with (first
          | (go_at_call 12; ((with_reducible refine (HTW _ hb0).out.mono ?_); rintro e w1 ⟨rfl, hb1⟩; have hb01 := below_step hb0 hb1; obtain ⟨e0, e1, e2⟩ := HD.out.all hb1))
          | (go_at_call 24; ((with_reducible refine (CF _ hb01).out.mono ?_); rintro e w2 ⟨rfl, hb2⟩; have hb02 := below_step hb01 hb2; have hb12 := below_step hb1 hb2; obtain ⟨g0, g1, g2⟩ := HD.out.all hb12))
          | (go_at_call 16; ((with_reducible refine (CP _ hb02).out.mono ?_); rintro e w4 ⟨A4, c4, rfl, hR4, hb4⟩; have hb4' := below_step hb4 (below_alloc w4 (.cells #[.slice A4 nc c4, .slice S ns cs, .int .i64 lp] 36)); have hb04 := below_step hb02 hb4'; have hb14 := below_step hb12 hb4'; have hP4 := DB.newT w4 A4 nc c4 S ns cs lp 36; have hR4' := hR4.keep (below_alloc w4 (.cells #[.slice A4 nc c4, .slice S ns cs, .int .i64 lp] 36)))))
        obtain ⟨gP, hgP⟩ : ∃ gP, w4.heap.size = gP := ⟨_, rfl⟩
        rw [hgP] at hP4 ⊢
        generalize w4.alloc (.cells #[.slice A4 nc c4, .slice S ns cs, .int .i64 lp] 36) = wP at *
        have HDP := Lib.hid (HD.out.keep hb14)
        have HP := Lib.hid hP4
        have HR := Lib.hid hR4'
        obtain ⟨x0, x1, x2⟩ := HD.out.all hb14
        clear hgP hR4 hR4' hP4 hb1 hb2 hb4 hb4' hb12 hb14 d0 d1 d2 e0 e1 e2 g0 g1 g2 hb01 hb02 hb0 dlt CF CP HTW HD
        go_upto_region 6 with (first
          | (go_at_call 20; ((with_reducible refine (CGn _ hb04).out.mono ?_); rintro e w5 ⟨rfl, hb5⟩; have hb05 := below_step hb04 hb5; obtain ⟨y0, y1, y2⟩ := HDP.out.all hb5))
          | (go_at_call 19; ((with_reducible refine (CD _ hb05).out.mono ?_); rintro e w6 ⟨rfl, hb6⟩; have hb6' := below_step hb6 (below_alloc w6 (dbox none 0 0 none 0 0 0)); have hb06 := below_step hb05 hb6'; have hb46 := below_step hb5 hb6'; have hX6 := DB.new w6 none 0 0 none 0 0 0)))
        obtain ⟨gX, hgX⟩ : ∃ gX, w6.heap.size = gX := ⟨_, rfl⟩
        rw [hgX] at hX6 ⊢
        generalize w6.alloc (dbox none 0 0 none 0 0 0) = wX at *
        have HZC := Lib.hid (HDP.out.keep hb46)
        have HZP := Lib.hid (HP.out.keep hb46)
        have HZR := Lib.hid (HR.out.keep hb46)
        have HZX := Lib.hid hX6
        have hbD : Below wX.heap.size wX wX.drew := (Below.refl _ _).drew
        have HZ : Hid (∀ W, Below wX.heap.size wX W → (W.cell? ⟨w.heap.size, 0, none⟩ = some (.slice C nc cc) ∧ W.cell? ⟨w.heap.size, 1, none⟩ = some (.slice S ns cs) ∧ W.cell? ⟨w.heap.size, 2, none⟩ = some (.int .i64 lp)) ∧ (W.cell? ⟨gP, 0, none⟩ = some (.slice A4 nc c4) ∧ W.cell? ⟨gP, 1, none⟩ = some (.slice S ns cs) ∧ W.cell? ⟨gP, 2, none⟩ = some (.int .i64 lp))) := fun W hb => ⟨HZC.out.all hb, HZP.out.all hb⟩
        obtain ⟨⟨z0, z1, z2⟩, ⟨z3, z4, z5⟩⟩ := HZ.out wX (Below.refl _ _)
        clear hgX hX6 x0 x1 x2 y0 y1 y2 hb5 hb6 hb6' hb46 hb05 hb04 CGn CD HDP HP HR
        go_region_held3 (fun w' => (w'.cell? ⟨w.heap.size, 0, none⟩ = some (.slice C nc cc) ∧ w'.cell? ⟨w.heap.size, 1, none⟩ = some (.slice S ns cs) ∧ w'.cell? ⟨w.heap.size, 2, none⟩ = some (.int .i64 lp)) ∧ (w'.cell? ⟨gP, 0, none⟩ = some (.slice A4 nc c4) ∧ w'.cell? ⟨gP, 1, none⟩ = some (.slice S ns cs) ∧ w'.cell? ⟨gP, 2, none⟩ = some (.int .i64 lp)))
          (first
            | with_reducible exact HZ.out _ zzB
            | with_reducible exact HZ.out _ zzA
            | with_reducible exact HZ.out _ hbD
            | go_keep)
          (first
            | (go_at_call 25; ((with_reducible refine (CV A4 c4 _ (below_step hb06 zzA) (HZR.out.keep zzA)).out.mono ?_); rintro e w8 ⟨rfl, hb8⟩; have zzB := below_step zzA hb8))
            | (go_at_call 21; ((with_reducible refine (CGV _ (below_step hb06 zzA)).out.mono ?_); rintro e w8 ⟨rfl, hb8⟩; have zzB := below_step zzA hb8))
            | (go_at_call 25; ((with_reducible refine (CV A4 c4 _ (below_step hb06 hbD) (HZR.out.keep hbD)).out.mono ?_); rintro e w7 ⟨rfl, hb7⟩; have zzA := below_step hbD hb7))
            | (go_at_call 21; ((with_reducible refine (CGV _ (below_step hb06 hbD)).out.mono ?_); rintro e w7 ⟨rfl, hb7⟩; have zzA := below_step hbD hb7)))
        all_goals
          obtain ⟨a0, a1, a2⟩ := HZP.out.all zzB
          obtain ⟨m0, m1, m2⟩ := HZX.out.all zzB
          have hb08 := below_step hb06 zzB
          have CVx := CV A4 c4 _ hb08 (HZR.out.keep zzB)
          clear z0 z1 z2 z3 z4 z5
          go_wp2_with (first
            | (go_at_call 26; ((with_reducible refine CGx.out.mono ?_); rintro e w10 ⟨rfl, hb10⟩))
            | (go_at_call 25; ((with_reducible refine CVx.out.mono ?_); rintro e w9 ⟨rfl, hb9⟩; have zzC := below_step zzB hb9; have hb09 := below_step hb06 zzC; have CGx := CGr A4 c4 _ hb09 (HZR.out.keep zzC); obtain ⟨b0, b1, b2⟩ := HZP.out.all zzC)))
          go_ret
          exact ⟨rfl, below_step hb09 hb10⟩

end Go.Proofs.YtdacjnmfmhkpiaaGreatDoor

/- From the cards' condition to the table of white space; a world that meets the condition. -/
namespace Go.Proofs.YtdacjnmfmhkpiaaGreatDoor
open Go.ChangeShapes Go.WideShapes Go.ChangeAt Go.RowKit Go.Joins

abbrev gLaid : List (String × DataW Unit) := Rows.gaussOfRow.laid
theorem door_met (os : Os) (args : Array Value) : laidMetH Tryz.prog gLaid ((World.doorLaid Tryz.prog 400 os).forCall (fun _ _ => 0) ⟨#[], args, []⟩).memory :=
  laidMetH_of_parts3 (fuel := 8) (laidMet_of_run' 8 (by kernel_rfl) (by kernel_rfl)) (by kernel_rfl) (by kernel_rfl)
theorem space_data : (Rows.laid_strings_asciiSpace : DataW Unit) = Lib.tabData .u8 Lib.asciiSpaceTab := by kernel_rfl
theorem laid_plain {W : World} (h : laidMetH Tryz.prog gLaid W) : laidMet Tryz.prog gLaid W := by
  rw [MakeChecks.laidMetH_plain _ _ _ (by kernel_rfl)] at h
  exact h
theorem tabW_of_laid {W : World} (h : laidMetH Tryz.prog gLaid W) : TabW W := by
  have h1 := laid_plain h
  have h2 : laidMet Tryz.prog [("strings.asciiSpace", Rows.laid_strings_asciiSpace)] W := h1.tail.tail.tail.tail.tail.tail
  rw [space_data] at h2
  exact Lib.tabIs_of_head Tryz.gSpace (by kernel_rfl) Tryz.underlying121 Tryz.underlying5 (by kernel_rfl) (by kernel_rfl) h2

end Go.Proofs.YtdacjnmfmhkpiaaGreatDoor
