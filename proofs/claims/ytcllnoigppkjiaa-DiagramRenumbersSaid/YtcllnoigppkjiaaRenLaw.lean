/- Walk: the law DiagramRenumbers. -/
import Derived.Test.YtcllnoigppkjiaaRenumber
import Derived.Test.YtcllnoigppkjiaaRRen
import Derived.Test.YtcllnoigppkjiaaIsPerm
import Derived.Test.YtcllnoigppkjiaaEq
import Derived.Test.YtcllnoigppkjiaaRValid2
import Derived.Test.YtcllnoigppkjiaaGreat
import Derived.Test.YtcllnoigppkjiaaAwake
namespace Go.Proofs.Ytcllnoigppkjiaa
open Go.ChangeShapes Go.WideShapes Go.ChangeAt Go.RowKit Go.Joins

def RenOK (s m o : List Int) (lp : Int) (ns nm : Nat) (w : World) (e : Ending) (w' : World) : Prop :=
  ∃ P pc R rc, e = .returned (.tuple #[dval P ns pc R nm rc lp, .int .i64 0]) ∧ RI w' P ns (renS s o ns) ∧ RI w' R nm (renM (matesOf m) o ns) ∧ Below w.heap.size w w'
theorem eqT' {s m : List Int} {lp : Int} : eqD s m lp s m lp = true := by simp [eqD]

set_option maxHeartbeats 12800000 in
set_option maxRecDepth 100000 in
theorem renumbers_walk (A B C : Option Addr) (ns cs nm cm no co : Nat) (lp : Int) (s m o : List Int) (w : World) (hs : RI w A ns s) (hm : RI w B nm m) (ho : RI w C no o) (hns : ns ≤ 9223372036854775807) (hnm : nm ≤ 9223372036854775807) (hno : no ≤ 9223372036854775807) (hmI : ∀ z ∈ m, inI z) (hoI : ∀ z ∈ o, inI z) :
    Calls Try.prog 6 #[dval A ns cs B nm cm lp, .slice C no co] w fun e w' => e = .returned (.bool true) ∧ Below w.heap.size w w' := by
  have hd := DB.new w A ns cs B nm cm lp
  have hb0 := below_alloc w (dbox A ns cs B nm cm lp)
  go_enter Try.func6, Try.ntmps6
  go_wp2_with fail
  refine (awake_any _).mono ?_
  rintro e w1 ⟨rfl, hb1⟩
  have hd1 := hd.keep hb1
  have hw1 := below_step hb0 hb1
  clear hd hb0 hb1
  have HD := Lib.hid hd1
  cases hg : grB ns nm with
  | true =>
    have CG := Lib.hid (great_big A B ns cs nm cm lp w1 hns hnm true hg)
    obtain ⟨d0, d1, d2, dlt⟩ := hd1
    clear hg hs hm hmI ho hoI
    go_wp2_with (go_at_call 12; ((with_reducible refine CG.out.mono ?_); rintro e w2 ⟨rfl, hb2⟩))
    go_ret
    exact ⟨rfl, below_step hw1 hb2⟩
  | false =>
    have CG := Lib.hid (great_big A B ns cs nm cm lp w1 hns hnm false hg)
    obtain ⟨b1, b2⟩ := grB_out hg
    have H := Lib.hid (DV.mk' (hs.keep hw1) (hm.keep hw1) hmI hg)
    have HO := Lib.hid (ho.keep hw1)
    obtain ⟨d0, d1, d2, dlt⟩ := hd1
    by_cases hbig : 100 < no
    · clear hg hs hm hmI hns hnm ho hoI
      go_wp2_with (go_at_call 12; ((with_reducible refine CG.out.mono ?_); rintro e w2 ⟨rfl, hb2⟩))
      go_ret
      exact ⟨rfl, below_step hw1 hb2⟩
    · have hn100 : no ≤ 100 := by omega
      have HOI : Hid (∀ j, j < no → -9223372036854775808 ≤ o.getD j 0 ∧ o.getD j 0 ≤ 9223372036854775807) := fun j hj => by
        have hl : j < o.length := by rw [HO.out.1]; exact hj
        exact hoI _ (getD_mem_int hl)
      have CN : ∀ W : World, Below w1.heap.size w1 W → Hid (Calls Try.prog 36 #[dval A ns cs B nm cm lp, .slice C no co] W (RenPost s m o lp ns nm W)) := fun W hb =>
        renumber_any A B C ns cs nm cm no co lp s m o W (H.out.keep hb) (HO.out.keep hb) (by omega) (by omega) HOI.out
      have CRV : ∀ (r : Bool), validB s m lp = r → ∀ W : World, Below w1.heap.size w1 W → Hid (Calls Try.prog 17 #[dval A ns cs B nm cm lp] W fun e w' => e = .returned (.bool r) ∧ Below W.heap.size W w') := fun r hr W hb => (H.out.keep hb).rvalid cs cm lp r hr
      have CIP : ∀ (r : Bool), (r = true ↔ IsOrd o ns) → ∀ W : World, Below w1.heap.size w1 W → Hid (Calls Try.prog 37 #[.slice C no co, .int .i64 (ns : Nat)] W fun e w' => e = .returned (.bool r) ∧ W = w') := fun r hr W hb =>
        isperm_any C no co ns o r W (HO.out.keep hb) (by omega) (by omega) hr
      have CEZ : ∀ W : World, Hid (Calls Try.prog 18 #[dval none 0 0 none 0 0 0, dval none 0 0 none 0 0 0] W fun e w' => e = .returned (.bool true) ∧ Below W.heap.size W w') := fun W => by
        rw [← eqT' (s := []) (m := []) (lp := 0)]
        exact requal_any none none none none 0 0 0 0 0 0 0 0 0 0 [] [] [] [] W (RI.nil _ _) (RI.nil _ _) (RI.nil _ _) (RI.nil _ _) (by omega) (by omega) (by omega) (by omega)
      clear hg hs hm hmI hns hnm ho hoI hbig hno
      cases hv : validB s m lp with
      | false =>
        have CNF : ∀ W : World, Below w1.heap.size w1 W → Hid (Calls Try.prog 36 #[dval A ns cs B nm cm lp, .slice C no co] W (fun e w' => e = .returned (.tuple #[dval none 0 0 none 0 0 0, .int .i64 1]) ∧ Below W.heap.size W w')) := fun W hb =>
          (CN W hb).out.mono fun e w' hp => by
            obtain ⟨p1, ⟨_, p3⟩ | ⟨p2, _⟩ | ⟨p2, _⟩⟩ := hp
            · exact ⟨p3, p1⟩
            · rw [hv] at p2; cases p2
            · rw [hv] at p2; cases p2
        have CRF := CRV false hv
        clear CN CRV CIP hv
        go_wp2_with (first
          | (go_at_call 12; ((with_reducible refine CG.out.mono ?_); rintro e w2 ⟨rfl, hb2⟩; have e0 := (hb2.cell (p := ⟨w.heap.size, 0, none⟩) dlt).trans d0; have e1 := (hb2.cell (p := ⟨w.heap.size, 1, none⟩) dlt).trans d1; have e2 := (hb2.cell (p := ⟨w.heap.size, 2, none⟩) dlt).trans d2; have elt := Nat.lt_of_lt_of_le dlt hb2.size))
          | (go_at_call 36; ((with_reducible refine (CNF _ hb2).out.mono ?_); rintro e w3 ⟨rfl, hb3⟩; have hb3' := below_step hb3 (below_alloc w3 (dbox none 0 0 none 0 0 0)); have f0 := (hb3'.cell (p := ⟨w.heap.size, 0, none⟩) elt).trans e0; have f1 := (hb3'.cell (p := ⟨w.heap.size, 1, none⟩) elt).trans e1; have f2 := (hb3'.cell (p := ⟨w.heap.size, 2, none⟩) elt).trans e2; have flt := Nat.lt_of_lt_of_le elt hb3'.size; have hb13 := below_step hb2 hb3'; have HX := Lib.hid (DB.new w3 none 0 0 none 0 0 0)))
          | (go_at_call 17; ((with_reducible refine (CRF _ hb13).out.mono ?_); rintro e w4 ⟨rfl, hb4⟩; obtain ⟨y0, y1, y2, ylt⟩ := HX.out.keep hb4))
          | (go_at_call 18; ((with_reducible refine (CEZ _).out.mono ?_); rintro e w5 ⟨rfl, hb5⟩)))
        go_ret
        exact ⟨rfl, below_step hw1 (below_step (below_step hb13 hb4) hb5)⟩
      | true =>
        have CRT := CRV true hv
        have HV := Lib.hid hv
        by_cases hio : IsOrd o ns
        · have CNT : ∀ W : World, Below w1.heap.size w1 W → Hid (Calls Try.prog 36 #[dval A ns cs B nm cm lp, .slice C no co] W (RenOK s m o lp ns nm W)) := fun W hb =>
            (CN W hb).out.mono fun e w' hp => by
              obtain ⟨p1, ⟨p2, _⟩ | ⟨_, p2, _⟩ | ⟨_, _, P, pc, R, rc, p2, p3, p4⟩⟩ := hp
              · rw [hv] at p2; cases p2
              · exact absurd hio p2
              · exact ⟨P, pc, R, rc, p2, p3.ri, p4.ri, p1⟩
          have CIT := CIP true (by simp [hio])
          obtain rfl : ns = no := by rw [← HO.out.1]; exact hio.1.symm
          have CRR : ∀ W : World, Below w1.heap.size w1 W → Hid (Calls Try.prog 38 #[dval A ns cs B nm cm lp, .slice C ns co] W (RRenPost s m o lp ns nm W)) := fun W hb => by
            have h2 := HO.out.keep hb
            exact rrenumber_any A B C ns cs nm cm co lp s m o W (H.out.keep hb) h2 HV.out hio
          have CEQ : ∀ (P P' R R' : Option Addr) (pc pc' rc rc' : Nat) (W : World), RI W P ns (renS s o ns) → RI W R nm (renM (matesOf m) o ns) → RI W P' ns (renS s o ns) → RI W R' nm (renM (matesOf m) o ns) → Hid (Calls Try.prog 18 #[dval P ns pc R nm rc lp, dval P' ns pc' R' nm rc' lp] W fun e w' => e = .returned (.bool true) ∧ Below W.heap.size W w') := fun P P' R R' pc pc' rc rc' W k1 k2 k3 k4 => by
            have := requal_any P R P' R' ns pc nm rc ns pc' nm rc' lp lp _ _ _ _ W k1 k2 k3 k4 (by omega) (by omega) (by omega) (by omega)
            rw [eqT'] at this
            exact this
          clear CN CRV CIP CEZ hv hio
          go_upto_region 10 with (first
            | (go_at_call 12; ((with_reducible refine CG.out.mono ?_); rintro e w2 ⟨rfl, hb2⟩; have e0 := (hb2.cell (p := ⟨w.heap.size, 0, none⟩) dlt).trans d0; have e1 := (hb2.cell (p := ⟨w.heap.size, 1, none⟩) dlt).trans d1; have e2 := (hb2.cell (p := ⟨w.heap.size, 2, none⟩) dlt).trans d2; have elt := Nat.lt_of_lt_of_le dlt hb2.size))
            | (go_at_call 36; ((with_reducible refine (CNT _ hb2).out.mono ?_); rintro e w3 ⟨P, pc, R, rc, rfl, oP, oR, hb3⟩; have hb3' := below_step hb3 (below_alloc w3 (dbox P ns pc R nm rc lp)); have f0 := (hb3'.cell (p := ⟨w.heap.size, 0, none⟩) elt).trans e0; have f1 := (hb3'.cell (p := ⟨w.heap.size, 1, none⟩) elt).trans e1; have f2 := (hb3'.cell (p := ⟨w.heap.size, 2, none⟩) elt).trans e2; have flt := Nat.lt_of_lt_of_le elt hb3'.size; have hb13 := below_step hb2 hb3'; have HX := Lib.hid (DB.new w3 P ns pc R nm rc lp); have oP1 := oP.keep (below_alloc w3 (dbox P ns pc R nm rc lp)); have oR1 := oR.keep (below_alloc w3 (dbox P ns pc R nm rc lp))))
            | (go_at_call 17; ((with_reducible refine (CRT _ hb13).out.mono ?_); rintro e w4 ⟨rfl, hb4⟩; have hb14 := below_step hb13 hb4; have g0 := (hb4.cell (p := ⟨w.heap.size, 0, none⟩) flt).trans f0; have g1 := (hb4.cell (p := ⟨w.heap.size, 1, none⟩) flt).trans f1; have g2 := (hb4.cell (p := ⟨w.heap.size, 2, none⟩) flt).trans f2; have glt := Nat.lt_of_lt_of_le flt hb4.size; obtain ⟨y0, y1, y2, ylt⟩ := HX.out.keep hb4; have oP2 := oP1.keep hb4; have oR2 := oR1.keep hb4))
            | (go_at_call 37; ((with_reducible refine (CIT _ hb14).out.mono ?_); rintro e w5 ⟨rfl, rfl⟩)))
          have hbD : Below w4.heap.size w4 w4.drew := (Below.refl _ _).drew
          have hb14D := below_step hb14 hbD
          clear f0 f1 f2 e0 e1 e2 d0 d1 d2 oP oR oP1 oR1
          go_region_held3 (fun w' => (w'.cell? ⟨w.heap.size, 0, none⟩ = some (.slice A ns cs) ∧ w'.cell? ⟨w.heap.size, 1, none⟩ = some (.slice B nm cm) ∧ w'.cell? ⟨w.heap.size, 2, none⟩ = some (.int .i64 lp)) ∧ (w'.cell? ⟨w3.heap.size, 0, none⟩ = some (.slice P ns pc) ∧ w'.cell? ⟨w3.heap.size, 1, none⟩ = some (.slice R nm rc) ∧ w'.cell? ⟨w3.heap.size, 2, none⟩ = some (.int .i64 lp)))
            (first
              | go_keep
              | exact ⟨⟨(z2.cell (p := ⟨w.heap.size, 0, none⟩) glt).trans g0, (z2.cell (p := ⟨w.heap.size, 1, none⟩) glt).trans g1, (z2.cell (p := ⟨w.heap.size, 2, none⟩) glt).trans g2⟩, ⟨(z2.cell (p := ⟨w3.heap.size, 0, none⟩) ylt).trans y0, (z2.cell (p := ⟨w3.heap.size, 1, none⟩) ylt).trans y1, (z2.cell (p := ⟨w3.heap.size, 2, none⟩) ylt).trans y2⟩⟩
              | exact ⟨⟨(z1.cell (p := ⟨w.heap.size, 0, none⟩) glt).trans g0, (z1.cell (p := ⟨w.heap.size, 1, none⟩) glt).trans g1, (z1.cell (p := ⟨w.heap.size, 2, none⟩) glt).trans g2⟩, ⟨(z1.cell (p := ⟨w3.heap.size, 0, none⟩) ylt).trans y0, (z1.cell (p := ⟨w3.heap.size, 1, none⟩) ylt).trans y1, (z1.cell (p := ⟨w3.heap.size, 2, none⟩) ylt).trans y2⟩⟩)
            (first
              | (go_at_call 38; ((with_reducible refine (CRR _ hb14D).out.mono ?_); rintro e y1' ⟨P', pc', R', rc', rfl, s1, s2, hc1⟩; have z1 := below_step hbD hc1; have t1 := oP2.keep z1; have t2 := oR2.keep z1))
              | (go_at_call 18; ((with_reducible refine (CEQ P P' R R' pc pc' rc rc' _ t1 t2 s1 s2).out.mono ?_); rintro e y2' ⟨rfl, hc2⟩; have z2 := below_step z1 hc2)))
          go_wp2
          go_ret
          exact ⟨rfl, below_step hw1 (below_step hb14 z2)⟩
        · have CNT : ∀ W : World, Below w1.heap.size w1 W → Hid (Calls Try.prog 36 #[dval A ns cs B nm cm lp, .slice C no co] W (fun e w' => e = .returned (.tuple #[dval none 0 0 none 0 0 0, .int .i64 2]) ∧ Below W.heap.size W w')) := fun W hb =>
            (CN W hb).out.mono fun e w' hp => by
              obtain ⟨p1, ⟨p2, _⟩ | ⟨_, _, p3⟩ | ⟨_, p2, _⟩⟩ := hp
              · rw [hv] at p2; cases p2
              · exact ⟨p3, p1⟩
              · exact absurd p2 hio
          have CIT := CIP false (by simp [hio])
          clear CN CRV CIP hv hio
          go_wp2_with (first
            | (go_at_call 12; ((with_reducible refine CG.out.mono ?_); rintro e w2 ⟨rfl, hb2⟩; have e0 := (hb2.cell (p := ⟨w.heap.size, 0, none⟩) dlt).trans d0; have e1 := (hb2.cell (p := ⟨w.heap.size, 1, none⟩) dlt).trans d1; have e2 := (hb2.cell (p := ⟨w.heap.size, 2, none⟩) dlt).trans d2; have elt := Nat.lt_of_lt_of_le dlt hb2.size))
            | (go_at_call 36; ((with_reducible refine (CNT _ hb2).out.mono ?_); rintro e w3 ⟨rfl, hb3⟩; have hb3' := below_step hb3 (below_alloc w3 (dbox none 0 0 none 0 0 0)); have f0 := (hb3'.cell (p := ⟨w.heap.size, 0, none⟩) elt).trans e0; have f1 := (hb3'.cell (p := ⟨w.heap.size, 1, none⟩) elt).trans e1; have f2 := (hb3'.cell (p := ⟨w.heap.size, 2, none⟩) elt).trans e2; have flt := Nat.lt_of_lt_of_le elt hb3'.size; have hb13 := below_step hb2 hb3'; have HX := Lib.hid (DB.new w3 none 0 0 none 0 0 0)))
            | (go_at_call 17; ((with_reducible refine (CRT _ hb13).out.mono ?_); rintro e w4 ⟨rfl, hb4⟩; have hb14 := below_step hb13 hb4; have g0 := (hb4.cell (p := ⟨w.heap.size, 0, none⟩) flt).trans f0; obtain ⟨y0, y1, y2, ylt⟩ := HX.out.keep hb4))
            | (go_at_call 37; ((with_reducible refine (CIT _ hb14).out.mono ?_); rintro e w5 ⟨rfl, rfl⟩))
            | (go_at_call 18; ((with_reducible refine (CEZ _).out.mono ?_); rintro e w6 ⟨rfl, hb6⟩)))
          go_ret
          exact ⟨rfl, below_step hw1 (below_step hb14 hb6)⟩

end Go.Proofs.Ytcllnoigppkjiaa
