/- Walk: the law DiagramEuler. -/
import Derived.Test.YtcngpnhecgppiaaEulerPlain
import Derived.Test.YtcngpnhecgppiaaGraph
import Derived.Test.YtcngpnhecgppiaaFaces
import Derived.Test.YtcngpnhecgppiaaGreat
import Derived.Test.YtcngpnhecgppiaaAwake
namespace Go.Proofs.Ytcngpnhecgppiaa
open Go.ChangeShapes Go.WideShapes Go.ChangeAt Go.RowKit Go.Joins

set_option maxHeartbeats 12800000 in
set_option maxRecDepth 100000 in
theorem euler_walk (A B : Option Addr) (ns cs nm cm : Nat) (lp : Int) (s m : List Int) (w : World) (hs : RI w A ns s) (hm : RI w B nm m) (hns : ns ≤ 9223372036854775807) (hnm : nm ≤ 9223372036854775807) (hmI : ∀ z ∈ m, inI z) :
    Calls Try.prog 4 #[dval A ns cs B nm cm lp] w fun e w' => e = .returned (.bool true) ∧ Below w.heap.size w w' := by
  have hd := DB.new w A ns cs B nm cm lp
  have hb0 := below_alloc w (dbox A ns cs B nm cm lp)
  go_enter Try.func4, Try.ntmps4
  go_wp2_with fail
  refine (awake_any _).mono ?_
  rintro e w1 ⟨rfl, hb1⟩
  have hd1 := hd.keep hb1
  have hw1 := below_step hb0 hb1
  clear hd hb0 hb1
  have HD := Lib.hid hd1
  cases hg : grB ns nm with
  | true =>
    have CG := Lib.hid (great_big A B ns cs nm cm lp w1 hns hnm true hg)
    obtain ⟨d0, d1, d2, dlt⟩ := hd1
    clear hg hs hm hmI
    go_wp2_with (go_at_call 8; ((with_reducible refine CG.out.mono ?_); rintro e w2 ⟨rfl, hb2⟩))
    go_ret
    exact ⟨rfl, below_step hw1 hb2⟩
  | false =>
    have CG := Lib.hid (great_big A B ns cs nm cm lp w1 hns hnm false hg)
    obtain ⟨b1, b2⟩ := grB_out hg
    have H := Lib.hid (DV.mk' (hs.keep hw1) (hm.keep hw1) hmI hg)
    obtain ⟨d0, d1, d2, dlt⟩ := hd1
    have CV : ∀ (r : Bool), validB s m lp = r → ∀ W : World, Below w1.heap.size w1 W → Hid (Calls Try.prog 14 #[dval A ns cs B nm cm lp] W fun e w' => e = .returned (.bool r) ∧ Below W.heap.size W w') := fun r hr W hb => (H.out.keep hb).valid cs cm lp r hr
    clear hg hs hm hmI hns hnm
    cases hv : validB s m lp with
    | false =>
      have CVF := CV false hv
      clear CV hv
      go_wp2_with (first
        | (go_at_call 8; ((with_reducible refine CG.out.mono ?_); rintro e w2 ⟨rfl, hb2⟩; have e0 := (hb2.cell (p := ⟨w.heap.size, 0, none⟩) dlt).trans d0; have e1 := (hb2.cell (p := ⟨w.heap.size, 1, none⟩) dlt).trans d1; have e2 := (hb2.cell (p := ⟨w.heap.size, 2, none⟩) dlt).trans d2))
        | (go_at_call 14; ((with_reducible refine (CVF _ hb2).out.mono ?_); rintro e w3 ⟨rfl, hb3⟩)))
      go_ret
      exact ⟨rfl, below_step hw1 (below_step hb2 hb3)⟩
    | true =>
      have CVT := CV true hv
      clear CV
      have EU := Lib.hid (euler_facts hv H.out.hs.1 H.out.hm.1)
      have CF : ∀ W : World, Below w1.heap.size w1 W → Hid (Calls Try.prog 15 #[dval A ns cs B nm cm lp] W (CycsPost W (facesM s m lp))) := fun W hb => faces_any A B ns cs nm cm lp s m W (H.out.keep hb)
      have CR : ∀ W : World, Below w1.heap.size w1 W → Hid (Calls Try.prog 16 #[dval A ns cs B nm cm lp] W (CycsPost W (graphM s m lp))) := fun W hb => graph_any A B ns cs nm cm lp s m W (H.out.keep hb)
      have hmk := fun W => make_one (P := Try.prog) Try.underlying22 Try.infoInt rfl nm (by omega) (by omega) W
      generalize ff (matesOf m) = f at EU
      clear hv
      go_wp2_with (first
        | (go_at_call 8; ((with_reducible refine CG.out.mono ?_); rintro e w2 ⟨rfl, hb2⟩; have e0 := (hb2.cell (p := ⟨w.heap.size, 0, none⟩) dlt).trans d0; have e1 := (hb2.cell (p := ⟨w.heap.size, 1, none⟩) dlt).trans d1; have e2 := (hb2.cell (p := ⟨w.heap.size, 2, none⟩) dlt).trans d2; have elt := Nat.lt_of_lt_of_le dlt hb2.size))
        | (go_at_call 14; ((with_reducible refine (CVT _ hb2).out.mono ?_); rintro e w3 ⟨rfl, hb3⟩; have f0 := (hb3.cell (p := ⟨w.heap.size, 0, none⟩) elt).trans e0; have f1 := (hb3.cell (p := ⟨w.heap.size, 1, none⟩) elt).trans e1; have f2 := (hb3.cell (p := ⟨w.heap.size, 2, none⟩) elt).trans e2; have flt := Nat.lt_of_lt_of_le elt hb3.size; have hb13 := below_step hb2 hb3))
        | (go_at_call 15; ((with_reducible refine (CF _ hb13).out.mono ?_); rintro e w4 ⟨v, rfl, hov, hb4⟩; obtain ⟨Av, cv, hAv, hro⟩ := hov.ro; subst hAv; have g0 := (hb4.cell (p := ⟨w.heap.size, 0, none⟩) flt).trans f0; have g1 := (hb4.cell (p := ⟨w.heap.size, 1, none⟩) flt).trans f1; have g2 := (hb4.cell (p := ⟨w.heap.size, 2, none⟩) flt).trans f2; have glt := Nat.lt_of_lt_of_le flt hb4.size)))
      have hb14 := below_step hb13 hb4
      have hA0 := Arr.new w4 nm 3 (fun _ => .int .i64 0)
      have hbA := below_alloc w4 (.cells (cellsN nm fun _ => .int .i64 0) 3)
      have HRO := Lib.hid hro
      have HG : Hid (w4.cell? ⟨w.heap.size, 0, none⟩ = some (.slice A ns cs) ∧ w4.cell? ⟨w.heap.size, 1, none⟩ = some (.slice B nm cm) ∧ w4.cell? ⟨w.heap.size, 2, none⟩ = some (.int .i64 lp)) := ⟨g0, g1, g2⟩
      obtain ⟨K, hKx⟩ : ∃ K, (facesM s m lp).length = K := ⟨_, rfl⟩
      have hKle : K ≤ 256 := by rw [← hKx, EU.out.len]; exact EU.out.kle
      have HKX := Lib.hid hKx
      rw [hKx]
      obtain ⟨g, hgx⟩ : ∃ g, w4.heap.size = g := ⟨_, rfl⟩
      rw [hgx] at hA0 hbA glt ⊢
      have HGX := Lib.hid hgx
      generalize w4.alloc (.cells (cellsN nm fun _ => .int .i64 0) 3) = wA at hA0 hbA ⊢
      clear hmk hro g0 g1 g2 f0 f1 f2 e0 e1 e2 d0 d1 d2 hKx hgx CF CVT CG hov
      go_loopw [5, 29] (fun _ i wr => ∃ k : Nat, k ≤ nm ∧ i = .int .i64 k ∧ Below g w4 wr ∧ Arr wr g 3 nm (zv fun x => if x < k then -1 else 0)) (fun _ i _ => nm - (intOf i).toNat)
      case atStart => exact ⟨0, by omega, rfl, hbA, hA0.congr fun i _ => by simp⟩
      case round =>
        obtain ⟨k, hk, rfl, hbr, hA⟩ := hrel
        have hk0 : (0 : Int) ≤ (k : Int) := Int.natCast_nonneg _
        by_cases hlt : k < nm
        · have hcell := hA.cell k hlt
          have hfz := hA.frozen k
          have hk1 : (k : Int) < (nm : Int) := by omega
          have hst : Arr (wr.setCell ⟨g, k, none⟩ (.int .i64 (-1))) g 3 nm (zv fun x => if x < k + 1 then -1 else 0) := (hA.setz k (-1)).congr fun i _ => by
            by_cases e : i = k
            · subst e; simp
            · by_cases e2 : i < k
              · simp [e, e2, show i < k + 1 by omega]
              · simp [e, e2, show ¬ i < k + 1 by omega]
          have HST := Lib.hid hst
          clear hst hA
          go_wp2
          go_roundw
          case rel => exact ⟨k + 1, by omega, by go_num, below_set hbr (Nat.le_refl _) _, HST.out⟩
          case measure => simp [intOf]; omega
        · obtain rfl : nm = k := by omega
          obtain ⟨wB, hwB⟩ : ∃ wB : World, wB = wr := ⟨_, rfl⟩
          subst hwB
          have hA1 : Arr wB g 3 nm (zv (paint f nm 0)) := hA.congr fun i hi => by simp [hi, paint]
          clear hA hlt hk hA0 hbA hk0
          go_wp2
          go_loopw [6, 7, 9, 38] (fun _ _ _ i wr => ∃ k : Nat, k ≤ K ∧ i = .int .i64 k ∧ Below g w4 wr ∧ Arr wr g 3 nm (zv (paint f nm k))) (fun _ _ _ i _ => K - (intOf i).toNat)
          case atStart => exact ⟨0, by omega, rfl, hbr, hA1⟩
          case round =>
            obtain ⟨k, hk, rfl, hbr1, hA⟩ := hrel
            have hk0 : (0 : Int) ≤ (k : Int) := Int.natCast_nonneg _
            by_cases hlt : k < K
            · have hkr : k < (reps f nm).length := by rw [← EU.out.len, HKX.out]; exact hlt
              obtain ⟨er, hR⟩ := EU.out.row k hkr
              have hbr' : Below w4.heap.size w4 wr := by rw [HGX.out]; exact hbr1
              obtain ⟨b, off, hAv, hb, hc⟩ := HRO.out.2 (by rw [HKX.out]; omega)
              subst hAv
              obtain ⟨A', n', c', h1, hx1⟩ := hc k (by rw [HKX.out]; exact hlt)
              rw [er] at hx1
              have hn' := hx1.1
              rw [itl_length] at hn'
              subst hn'
              obtain ⟨b', off', hA', hb', hc'⟩ := hx1.2 (per_pos _ _ _)
              subst hA'
              have h1' := (hbr'.cell (p := ⟨b, off + k, none⟩) hb).trans h1
              have HPN : Hid (∀ j, j < per f nm ((reps f nm).getD k 0) → it f j ((reps f nm).getD k 0) < nm ∧ paintRow f ((reps f nm).getD k 0) k j (paint f nm k) (it f j ((reps f nm).getD k 0)) = -1) := fun j hj => paint_next EU.out.p hkr hj
              have HNX : Hid (paint f nm (k + 1) = paintRow f ((reps f nm).getD k 0) k (per f nm ((reps f nm).getD k 0)) (paint f nm k)) := rfl
              generalize (reps f nm).getD k 0 = R at *
              have hp1 : per f nm R ≤ 256 := by have := (EU.out.p.per_spec hR).2.1; have := EU.out.n4; have := EU.out.le; omega
              have HCR : Hid (∀ wr : World, Below g w4 wr → ∀ j, j < per f nm R → wr.cell? ⟨b', off' + j, none⟩ = some (.int .i64 (it f j R : Nat))) := fun wr hb j hj => by
                have q := hc' j hj
                rw [itl_getD _ _ _ _ hj] at q
                exact (hb.cell (p := ⟨b', off' + j, none⟩) (by rw [← HGX.out]; exact hb')).trans q
              have HA := Lib.hid hA
              clear hc hc' h1 hx1 er hA hbr' hb hb' hA1
              go_wp2
              go_loopw [9, 45] (fun _ i wr => ∃ j : Nat, j ≤ per f nm R ∧ i = .int .i64 j ∧ Below g w4 wr ∧ Arr wr g 3 nm (zv (paintRow f R k j (paint f nm k)))) (fun _ i _ => per f nm R - (intOf i).toNat)
              case atStart => exact ⟨0, by omega, rfl, hbr1, HA.out⟩
              case round =>
                obtain ⟨j, hj, rfl, hbj, hAj⟩ := hrel
                have hj0 : (0 : Int) ≤ (j : Int) := Int.natCast_nonneg _
                by_cases hjl : j < per f nm R
                · have hcr := HCR.out wr hbj j hjl
                  obtain ⟨hxN, hx1⟩ := HPN.out j hjl
                  have hcell : wr.cell? ⟨g, it f j R, none⟩ = some (.int .i64 (-1)) := by
                    rw [hAj.cell _ hxN]
                    show some (Value.int .i64 (paintRow f R k j (paint f nm k) (it f j R))) = _
                    rw [hx1]
                  have hfz := hAj.frozen (it f j R)
                  have hst : Arr (wr.setCell ⟨g, it f j R, none⟩ (.int .i64 (k : Int))) g 3 nm (zv (paintRow f R k (j + 1) (paint f nm k))) := hAj.setz _ (k : Int)
                  have HST := Lib.hid hst
                  have hj1 : (j : Int) < (per f nm R : Int) := by omega
                  clear hst hAj hx1
                  generalize it f j R = x at *
                  have hx0 : (0 : Int) ≤ (x : Int) := Int.natCast_nonneg _
                  have hx2 : (x : Int) < (nm : Int) := by omega
                  go_wp2
                  go_roundw
                  case rel => exact ⟨j + 1, by omega, by go_num, below_set hbj (Nat.le_refl _) _, HST.out⟩
                  case measure => simp [intOf]; omega
                · obtain rfl : j = per f nm R := by omega
                  rw [← HNX.out] at hAj
                  clear hjl hj
                  go_wp2
                  go_roundw
                  case rel => exact ⟨k + 1, by omega, by go_num, hbj, hAj⟩
                  case measure => simp [intOf]; omega
            · obtain rfl : K = k := by omega
              obtain ⟨wE, hwE⟩ : ∃ wE : World, wE = wr := ⟨_, rfl⟩
              subst hwE
              have hKr : K = (reps f nm).length := by rw [← HKX.out, EU.out.len]
              have HV1 : Hid (∀ x, x < nm → paint f nm K x ≠ -1) := fun x hx => by rw [hKr]; exact paint_all EU.out.p hx
              have HV2 : Hid (∀ x, x < nm → paint f nm K x ≠ paint f nm K (matesOf m x)) := fun x hx e => by
                rw [hKr] at e
                exact EU.out.sides x hx (paint_same EU.out.p hx (EU.out.mates x hx).2 e)
              have HKR := Lib.hid hKr
              generalize paint f nm K = V at *
              clear hlt hk hk0 hA1 hKr hbr
              go_wp2
              go_loopw [10, 72] (fun _ i wr => ∃ k : Nat, k ≤ nm ∧ i = .int .i64 k ∧ Below g w4 wr ∧ Arr wr g 3 nm (zv V)) (fun _ i _ => nm - (intOf i).toNat)
              case atStart => exact ⟨0, by omega, rfl, hbr1, hA⟩
              case round =>
                obtain ⟨k, hk, rfl, hbk, hAk⟩ := hrel
                have hk0 : (0 : Int) ≤ (k : Int) := Int.natCast_nonneg _
                by_cases hlt : k < nm
                · have hbk' : Below w4.heap.size w4 wr := by rw [HGX.out]; exact hbk
                  obtain ⟨bm, om, hBm, _, hcm⟩ := (H.out.hm.keep (below_step hb14 hbk')).2 (by omega)
                  subst hBm
                  obtain ⟨hm1, hm2⟩ := EU.out.mates k hlt
                  have q0 := hcm k hlt
                  have q0' : wr.cell? ⟨bm, om + k, none⟩ = some (.int .i64 (matesOf m k : Nat)) := by rw [q0]; show some (Value.int .i64 (mt m k)) = _; rw [hm1]
                  have q1 : wr.cell? ⟨g, k, none⟩ = some (.int .i64 (V k)) := hAk.cell k hlt
                  have q2 : wr.cell? ⟨g, matesOf m k, none⟩ = some (.int .i64 (V (matesOf m k))) := hAk.cell _ hm2
                  have d1 : (V k == -1) = false := by simp only [beq_eq_false_iff_ne, ne_eq]; exact HV1.out k hlt
                  have d2 : (V k == V (matesOf m k)) = false := by simp only [beq_eq_false_iff_ne, ne_eq]; exact HV2.out k hlt
                  have q3 := (hbk.cell (p := ⟨w.heap.size, 1, none⟩) glt).trans HG.out.2.1
                  have hk1 : (k : Int) < (nm : Int) := by omega
                  have HAK := Lib.hid hAk
                  clear q0 hcm hm1 hAk hbk' hA
                  generalize matesOf m k = mk at *
                  generalize V k = v1 at *
                  generalize V mk = v2 at *
                  have hx0 : (0 : Int) ≤ (mk : Int) := Int.natCast_nonneg _
                  have hx2 : (mk : Int) < (nm : Int) := by omega
                  go_wp2
                  go_quiet (fail)
                  go_wp2
                  go_roundw
                  case rel => exact ⟨k + 1, by omega, by go_num, below_drewN hbk _, HAK.out⟩
                  case measure => simp [intOf]; omega
                · obtain rfl : nm = k := by omega
                  obtain ⟨wD, hwD⟩ : ∃ wD : World, wD = wr := ⟨_, rfl⟩
                  subst hwD
                  have hbk' : Below w4.heap.size w4 wD := by rw [HGX.out]; exact hbk
                  have hb1D := below_step hb14 hbk'
                  have c0 := (hbk.cell (p := ⟨w.heap.size, 0, none⟩) glt).trans HG.out.1
                  have c1 := (hbk.cell (p := ⟨w.heap.size, 1, none⟩) glt).trans HG.out.2.1
                  have c2 := (hbk.cell (p := ⟨w.heap.size, 2, none⟩) glt).trans HG.out.2.2
                  have wlt : w.heap.size < wD.heap.size := by have := hbk'.size; have := HGX.out; omega
                  have CRD : ∀ W : World, Below wD.heap.size wD W → Hid (Calls Try.prog 16 #[dval A ns cs B nm cm lp] W (CycsPost W (graphM s m lp))) := fun W hb => CR W (below_step hb1D hb)
                  have hcnt : K = ns + 2 * (graphM s m lp).length := by rw [HKR.out]; exact EU.out.count
                  clear CR
                  generalize graphM s m lp = gss at *
                  have hwr1 : IntKind.i64.wrap (2 * (gss.length : Int)) = 2 * (gss.length : Int) := IntWalk.i64_in _ (by omega)
                  have hwr2 : IntKind.i64.wrap ((ns : Int) + 2 * (gss.length : Int)) = (ns : Int) + 2 * (gss.length : Int) := IntWalk.i64_in _ (by omega)
                  have HCN := Lib.hid hcnt
                  have hbD : Below wD.heap.size wD wD.drew := (Below.refl _ _).drew
                  clear hcnt hbk' hAk hA hbk hlt hk hk0
                  go_upto_region 29 with fail
                  go_region_held3 (fun w' => w'.cell? ⟨w.heap.size, 0, none⟩ = some (.slice A ns cs) ∧ w'.cell? ⟨w.heap.size, 1, none⟩ = some (.slice B nm cm) ∧ w'.cell? ⟨w.heap.size, 2, none⟩ = some (.int .i64 lp))
                    (first
                      | go_keep
                      | exact ⟨(hbB.cell (p := ⟨w.heap.size, 0, none⟩) wlt).trans c0, (hbB.cell (p := ⟨w.heap.size, 1, none⟩) wlt).trans c1, (hbB.cell (p := ⟨w.heap.size, 2, none⟩) wlt).trans c2⟩)
                    (first
                      | (go_at_call 16; ((with_reducible refine (CRD _ hbD).out.mono ?_); rintro e w5 ⟨vg, rfl, hog, hb5⟩; have hbB := below_step hbD hb5; obtain ⟨Ag, cg, rfl⟩ := hog.form)))
                  go_wp2
                  go_ret
                  exact ⟨ret_bool (by have := HCN.out; simp only [beq_iff_eq]; omega), below_step hw1 (below_step hb1D hbB)⟩

end Go.Proofs.Ytcngpnhecgppiaa
