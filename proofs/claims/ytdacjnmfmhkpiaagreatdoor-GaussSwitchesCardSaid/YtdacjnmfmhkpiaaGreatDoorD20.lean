import Derived.Test.YtdacjnmfmhkpiaaGreatDoorD05
import Derived.Deep.RegionHeld3
import Derived.Deep.DeepCutAuto
import Derived.Test.YtdacjnmfmhkpiaaGreatDoorD18
import Derived.Test.YtdacjnmfmhkpiaaGreatDoorD19
import Derived.Test.YtdacjnmfmhkpiaaGreatDoorD07
import Derived.Maps.AppendAt
/- Walk: the reference's Same, of two codes that read alike. -/
namespace Go.Proofs.YtdacjnmfmhkpiaaGreatDoor
open Go.RowKit

abbrev rbox (C : Option Addr) (nc cc : Nat) (S : Option Addr) (ns cs : Nat) (lp : Int) : Obj := .cells #[.slice C nc cc, .slice S ns cs, .int .i64 lp] 36

set_option maxHeartbeats 3200000 in
set_option maxRecDepth 100000 in
theorem same_true (C S C' S' : Option Addr) (nc cc ns cs cc' cs' : Nat) (lp : Int) (vss : List (List Vis)) (s : List Int) (w : World) (hC : RVV w C nc vss) (hS : RI w S ns s) (hC' : RVV w C' nc vss) (hS' : RI w S' ns s)
    (hns : ns ≤ 1000000) (hnc : nc ≤ 1000000) (hl : ∀ j, (vss.getD j []).length ≤ 1000000) :
    Calls Tryz.prog 15 #[dval C nc cc S ns cs lp, dval C' nc cc' S' ns cs' lp] w fun e w' => e = .returned (.bool true) ∧ Below w.heap.size w w' := by
  have hba := below_alloc w (rbox C nc cc S ns cs lp)
  have hbb := below_alloc (w.alloc (rbox C nc cc S ns cs lp)) (rbox C' nc cc' S' ns cs' lp)
  have hb0 := below_step hba hbb
  have hd := (DB.newT w C nc cc S ns cs lp 36).keep hbb
  have hd' := DB.newT (w.alloc (rbox C nc cc S ns cs lp)) C' nc cc' S' ns cs' lp 36
  have hsz : (w.alloc (rbox C nc cc S ns cs lp)).heap.size = w.heap.size + 1 := by simp
  rw [hsz] at hd'
  obtain ⟨d0, d1, d2, dlt⟩ := hd
  obtain ⟨e0, e1, e2, elt⟩ := hd'
  have C1 : ∀ W : World, Below w.heap.size w W → Hid (Calls Tryz.prog 40 #[.slice S ns cs, .slice S' ns cs'] W fun e w' => e = .returned (.bool true) ∧ Below W.heap.size W w') := fun W hb => ints_r true S S' ns cs ns cs' s s W (hS.keep hb) (hS'.keep hb) (by omega) (by omega) (by simp)
  have HL := Lib.hid hl
  have HC := Lib.hid hC
  have HC' := Lib.hid hC'
  clear hba hbb hS hS' hC hC' hsz hl
  go_enter Tryz.func15, Tryz.ntmps15
  go_upto_region 1 with fail
  generalize (w.alloc (rbox C nc cc S ns cs lp)).alloc (rbox C' nc cc' S' ns cs' lp) = wA at *
  obtain ⟨gB, hgB⟩ : ∃ g, w.heap.size + 1 = g := ⟨_, rfl⟩
  rw [hgB] at e0 e1 e2 elt ⊢
  go_wp2_with (go_at_call 40; ((with_reducible refine (C1 _ hb0).out.mono ?_); rintro e w1 ⟨rfl, hb1⟩; have f0 := (hb1.cell (p := ⟨w.heap.size, 0, none⟩) dlt).trans d0; have f1 := (hb1.cell (p := ⟨w.heap.size, 2, none⟩) dlt).trans d2; have g0 := (hb1.cell (p := ⟨gB, 0, none⟩) elt).trans e0; have g1 := (hb1.cell (p := ⟨gB, 2, none⟩) elt).trans e2))
  have hbw := below_step hb0 hb1
  have hlt0 : w.heap.size < w1.heap.size := Nat.lt_of_lt_of_le dlt hb1.size
  have hlt1 : gB < w1.heap.size := Nat.lt_of_lt_of_le elt hb1.size
  clear C1 d0 d1 d2 e0 e1 e2 hb0 hb1 dlt elt hgB
  go_loopw [5, 6] (fun i _ wr => ∃ k : Nat, k ≤ nc ∧ i = .int .i64 k ∧ Below w1.heap.size w1 wr) (fun i _ _ => nc - (intOf i).toNat)
  case atStart => exact ⟨0, by omega, rfl, Below.refl _ _⟩
  case round =>
    obtain ⟨k, hk, rfl, hbr⟩ := hrel
    have hk0 : (0 : Int) ≤ (k : Int) := Int.natCast_nonneg _
    have x0 := (hbr.cell (p := ⟨w.heap.size, 0, none⟩) hlt0).trans f0
    have y0 := (hbr.cell (p := ⟨gB, 0, none⟩) hlt1).trans g0
    by_cases hlt : k < nc
    · have hbwr := below_step hbw hbr
      obtain ⟨b1, o1, hC1, hb1, hc1⟩ := HC.out.2 (by omega)
      obtain ⟨b2, o2, hC2, hb2, hc2⟩ := HC'.out.2 (by omega)
      subst hC1; subst hC2
      obtain ⟨A1, n1, c1, hcel1, hr1⟩ := hc1 k hlt
      obtain ⟨A2, n2, c2, hcel2, hr2⟩ := hc2 k hlt
      have hn12 : n2 = n1 := by rw [← hr1.1, ← hr2.1]
      subst hn12
      have hL := HL.out k
      rw [hr1.1] at hL
      have u0 := (hbwr.cell (p := ⟨b1, o1 + k, none⟩) hb1).trans hcel1
      have u1 := (hbwr.cell (p := ⟨b2, o2 + k, none⟩) hb2).trans hcel2
      have hk1 : (k : Int) < (nc : Int) := by omega
      have HR1 := Lib.hid hr1
      have HR2 := Lib.hid hr2
      clear hc1 hc2 hr1 hr2
      go_wp2
      go_region
      have hbrD := hbr.drew
      have HBD := Lib.hid hbrD
      have hr0 : Below w1.heap.size w1 wr.drew := hbrD
      clear u0 u1 x0 y0 hbr hbwr hbrD
      generalize wr.drew = wC at *
      go_wp2
      go_loopw [6] (fun i wr => ∃ q : Nat, q ≤ n2 ∧ i = .int .i64 q ∧ Below w1.heap.size w1 wr) (fun i _ => n2 - (intOf i).toNat)
      case atStart => exact ⟨0, by omega, rfl, hr0⟩
      case round =>
        obtain ⟨q, hq, rfl, hbq⟩ := hrel
        have hq0 : (0 : Int) ≤ (q : Int) := Int.natCast_nonneg _
        have hbwq := below_step hbw hbq
        have x0 := (hbq.cell (p := ⟨w.heap.size, 0, none⟩) hlt0).trans f0
        have y0 := (hbq.cell (p := ⟨gB, 0, none⟩) hlt1).trans g0
        have u0 := (hbwq.cell (p := ⟨b1, o1 + k, none⟩) hb1).trans hcel1
        have u1 := (hbwq.cell (p := ⟨b2, o2 + k, none⟩) hb2).trans hcel2
        by_cases hql : q < n2
        · obtain ⟨b3, o3, hA1, hb3, hc3⟩ := HR1.out.2 (by omega)
          obtain ⟨b4, o4, hA2, hb4, hc4⟩ := HR2.out.2 (by omega)
          subst hA1; subst hA2
          obtain ⟨t0, t1⟩ := hc3 q hql
          obtain ⟨t2, t3⟩ := hc4 q hql
          have z0 := (hbwq.cell (p := ⟨b3, o3 + q * 2, none⟩) hb3).trans t0
          have z1 := (hbwq.cell (p := ⟨b3, o3 + q * 2 + 1, none⟩) hb3).trans t1
          have z2 := (hbwq.cell (p := ⟨b4, o4 + q * 2, none⟩) hb4).trans t2
          have z3 := (hbwq.cell (p := ⟨b4, o4 + q * 2 + 1, none⟩) hb4).trans t3
          generalize ((vss.getD k []).getD q v0).1 = vc at *
          generalize ((vss.getD k []).getD q v0).2 = vo at *
          have hq1 : (q : Int) < (n2 : Int) := by omega
          have HBQ := Lib.hid hbq.drew
          clear hc3 hc4 t0 t1 t2 t3 hbwq
          go_wp2
          go_region
          have hbD := HBQ.out
          clear x0 y0 u0 u1 z0 z1 z2 z3 hbq HBQ
          generalize wr.drew = wD at *
          go_wp2
          go_roundw
          case rel => exact ⟨q + 1, by omega, by go_num, hbD⟩
          case measure => simp [intOf]; omega
        · obtain rfl : q = n2 := by omega
          have HBQ := Lib.hid hbq
          clear hql hq
          go_wp2
          go_roundw
          case rel => exact ⟨k + 1, by omega, by go_num, HBQ.out⟩
          case measure => simp [intOf]; omega
    · obtain rfl : k = nc := by omega
      clear hlt hk
      go_wp2
      go_ret
      exact ⟨rfl, below_step hbw hbr⟩

end Go.Proofs.YtdacjnmfmhkpiaaGreatDoor

/- Walk: the law GaussText. -/
namespace Go.Proofs.YtdacjnmfmhkpiaaGreatDoor
open Go.ChangeShapes Go.WideShapes Go.ChangeAt Go.RowKit Go.Joins

theorem flat_le {M : Nat} : ∀ vss : List (List Vis), (∀ j, (vss.getD j []).length ≤ M) → vss.flatten.length ≤ vss.length * M
  | [], _ => by simp
  | l :: vss, h => by
    have h0 : l.length ≤ M := by simpa using h 0
    have h1 := flat_le vss fun j => by simpa using h (j + 1)
    rw [List.flatten_cons, List.length_append, List.length_cons, Nat.add_mul]
    omega
theorem few_all (C S : Option Addr) (nc cc ns cs : Nat) (lp : Int) (vss : List (List Vis)) (w : World) (hC : RVV w C nc vss) (hns : ns ≤ 9223372036854775807) (hnc : nc ≤ 140737488351232) (hll : ∀ j, (vss.getD j []).length ≤ 140737488351232) (r : Bool) (hr : fewB vss ns nc = r) :
    Calls Tryz.prog 24 #[dval C nc cc S ns cs lp] w fun e w' => e = .returned (.bool r) ∧ Below w.heap.size w w' := by
  by_cases h : nc ≤ 28
  · have hf := flat_le vss hll
    rw [hC.1] at hf
    have hf2 : nc * 140737488351232 ≤ 28 * 140737488351232 := Nat.mul_le_mul_right _ h
    have := few_any C S nc cc ns cs lp vss w hC hns (by omega) (by omega)
    rw [hr] at this
    exact this
  · have e : fewB vss ns nc = false := by simp [fewB, h]
    rw [e] at hr
    subst hr
    exact few_big C S nc cc ns cs lp vss w hC (by omega) (by omega)
theorem fewB_out {vss : List (List Vis)} {ns nc : Nat} (h : fewB vss ns nc = true) : ns ≤ 14 ∧ nc ≤ 28 ∧ vss.flatten.length ≤ 42 := by
  unfold fewB at h; simp only [Bool.and_eq_true, decide_eq_true_eq] at h; omega

set_option maxHeartbeats 3200000 in
set_option maxRecDepth 100000 in
theorem text_walk (C S : Option Addr) (nc cc ns cs : Nat) (lp : Int) (vss : List (List Vis)) (s : List Int) (w : World) (hC : RVV w C nc vss) (hS : RI w S ns s) (hns : ns ≤ 9223372036854775807) (hnc : nc ≤ 140737488351232) (hll : ∀ j, (vss.getD j []).length ≤ 140737488351232) (ht : TabW w) :
    Calls Tryz.prog 8 #[dval C nc cc S ns cs lp] w fun e w' => e = .returned (.bool true) ∧ Below w.heap.size w w' := by
  have hd := DB.newT w C nc cc S ns cs lp 28
  have hb0 := below_alloc w (cbox C nc cc S ns cs lp)
  have HTW : ∀ W, Below w.heap.size w W → Hid (Calls Tryz.prog 12 #[] W fun e w' => e = .returned (.bool true) ∧ Below W.heap.size W w') := fun W hb => gawake_any W (ht.keep hb)
  obtain ⟨d0, d1, d2, dlt⟩ := hd
  cases hf : fewB vss ns nc with
  | false =>
    have CF : ∀ W, Below w.heap.size w W → Hid (Calls Tryz.prog 24 #[dval C nc cc S ns cs lp] W fun e w' => e = .returned (.bool false) ∧ Below W.heap.size W w') := fun W hb => few_all C S nc cc ns cs lp vss W (hC.keep hb) hns hnc hll false hf
    clear hf hC hS hns hnc hll ht
    go_enter Tryz.func8, Tryz.ntmps8
    go_wp2_with (first
      | (go_at_call 12; ((with_reducible refine (HTW _ hb02).out.mono ?_); rintro e w3 ⟨rfl, hb3⟩))
      | (go_at_call 12; ((with_reducible refine (HTW _ hb0).out.mono ?_); rintro e w1 ⟨rfl, hb1⟩; have hb01 := below_step hb0 hb1; have e0 := (hb1.cell (p := ⟨w.heap.size, 0, none⟩) dlt).trans d0; have e1 := (hb1.cell (p := ⟨w.heap.size, 1, none⟩) dlt).trans d1; have e2 := (hb1.cell (p := ⟨w.heap.size, 2, none⟩) dlt).trans d2))
      | (go_at_call 24; ((with_reducible refine (CF _ hb01).out.mono ?_); rintro e w2 ⟨rfl, hb2⟩; have hb02 := below_step hb01 hb2)))
    go_ret
    exact ⟨rfl, below_step hb02 hb3⟩
  | true =>
    have CF : ∀ W, Below w.heap.size w W → Hid (Calls Tryz.prog 24 #[dval C nc cc S ns cs lp] W fun e w' => e = .returned (.bool true) ∧ Below W.heap.size W w') := fun W hb => few_all C S nc cc ns cs lp vss W (hC.keep hb) hns hnc hll true hf
    obtain ⟨f1, f2, f3⟩ := fewB_out hf
    have hrl : ∀ j, (vss.getD j []).length ≤ 42 := fun j => by have := row_flat (vss := vss) j; omega
    have CP : ∀ (C S : Option Addr) (cc cs : Nat) (W : World), RVV W C nc vss → Hid (Calls Tryz.prog 16 #[dval C nc cc S ns cs lp] W (PlainPost vss S nc ns cs lp W)) := fun C S cc cs W h =>
      plain_any C S nc cc ns cs lp vss W h (by omega) (fun j => by have := hrl j; omega)
    have CV : ∀ (C S : Option Addr) (cc cs : Nat) (W : World), RVV W C nc vss → RI W S ns s → Hid (Calls Tryz.prog 25 #[dval C nc cc S ns cs lp] W fun e w' => e = .returned (.bool (gvalB vss s lp)) ∧ Below W.heap.size W w') := fun C S cc cs W h1 h2 =>
      rgvalid_any C S nc cc ns cs lp vss s W h1 h2 (by omega) (by omega) (by omega)
    have CFm : ∀ W, Below w.heap.size w W → Hid (Calls Tryz.prog 29 #[dval C nc cc S ns cs lp] W fun e w' => e = .returned (if gvalB vss s lp = true then .tuple #[.string ⟨(gTxt vss s lp).toArray⟩, .int .i64 0] else .tuple #[.string ⟨#[]⟩, .int .i64 1]) ∧ Below W.heap.size W w') := fun W hb =>
      gFormat_any C S nc cc ns cs lp vss s W (hC.keep hb) (hS.keep hb) (by omega) (by omega) (by omega)
    have HC := Lib.hid hC
    have HS := Lib.hid hS
    clear hns hnc hll hf
    cases hv : gvalB vss s lp with
    | false =>
      rw [hv] at CV CFm
      simp only [Bool.false_eq_true, if_false] at CFm
      clear hv ht hC hS hrl f1 f2 f3
      go_enter Tryz.func8, Tryz.ntmps8
      go_wp2_with (first
        | (go_at_call 12; ((with_reducible refine (HTW _ hb0).out.mono ?_); rintro e w1 ⟨rfl, hb1⟩; have hb01 := below_step hb0 hb1; have e0 := (hb1.cell (p := ⟨w.heap.size, 0, none⟩) dlt).trans d0; have e1 := (hb1.cell (p := ⟨w.heap.size, 1, none⟩) dlt).trans d1; have e2 := (hb1.cell (p := ⟨w.heap.size, 2, none⟩) dlt).trans d2; have elt := Nat.lt_of_lt_of_le dlt hb1.size))
        | (go_at_call 24; ((with_reducible refine (CF _ hb01).out.mono ?_); rintro e w2 ⟨rfl, hb2⟩; have hb02 := below_step hb01 hb2; have g0 := (hb2.cell (p := ⟨w.heap.size, 0, none⟩) elt).trans e0; have g1 := (hb2.cell (p := ⟨w.heap.size, 1, none⟩) elt).trans e1; have g2 := (hb2.cell (p := ⟨w.heap.size, 2, none⟩) elt).trans e2; have glt := Nat.lt_of_lt_of_le elt hb2.size))
        | (go_at_call 29; ((with_reducible refine (CFm _ hb02).out.mono ?_); rintro e w3 ⟨rfl, hb3⟩; have hb03 := below_step hb02 hb3; have i0 := (hb3.cell (p := ⟨w.heap.size, 0, none⟩) glt).trans g0; have i1 := (hb3.cell (p := ⟨w.heap.size, 1, none⟩) glt).trans g1; have i2 := (hb3.cell (p := ⟨w.heap.size, 2, none⟩) glt).trans g2))
        | (go_at_call 16; ((with_reducible refine (CP C S cc cs _ (HC.out.keep hb03)).out.mono ?_); rintro e w4 ⟨A4, c4, rfl, hR4, hb4⟩; have hb04 := below_step hb03 hb4))
        | (go_at_call 25; ((with_reducible refine (CV A4 S c4 cs _ hR4 (HS.out.keep hb04)).out.mono ?_); rintro e w5 ⟨rfl, hb5⟩)))
      go_ret
      exact ⟨rfl, below_step hb04 hb5⟩
    | true =>
      have G := gv_facts hv
      obtain ⟨m, hm⟩ := Int.eq_ofNat_of_zero_le G.lp0
      subst hm
      have hsl : s.length = ns := hS.1
      have CPa : ∀ W, Below w.heap.size w W → Hid (Calls Tryz.prog 30 #[.string ⟨(gTxt vss s (m : Int)).toArray⟩] W fun e w' => ∃ C cc S cs, e = .returned (.tuple #[dval C nc cc S ns cs (m : Int), .int .i64 0]) ∧ RVV w' C nc vss ∧ RI w' S ns s ∧ Below W.heap.size W w') := fun W hb => by
        have h := parse_code m ns vss s W hv hsl (ht.keep hb)
        unfold ParsePost at h
        rw [hC.1] at h
        exact h
      have CRF : ∀ (C S : Option Addr) (cc cs : Nat) (W : World), RVV W C nc vss → RI W S ns s → Hid (Calls Tryz.prog 31 #[dval C nc cc S ns cs (m : Int)] W fun e w' => e = .returned (.string ⟨(gTxt vss s (m : Int)).toArray⟩) ∧ Below W.heap.size W w') := fun C S cc cs W h1 h2 =>
        rformat_any C S nc cc ns cs m vss s W h1 h2 hv
      have CS : ∀ (C S C' S' : Option Addr) (cc cs1 cc' cs' : Nat) (W : World), RVV W C nc vss → RI W S ns s → RVV W C' nc vss → RI W S' ns s → Hid (Calls Tryz.prog 15 #[dval C nc cc S ns cs1 (m : Int), dval C' nc cc' S' ns cs' (m : Int)] W fun e w' => e = .returned (.bool true) ∧ Below W.heap.size W w') := fun C S C' S' cc cs1 cc' cs' W h1 h2 h3 h4 =>
        same_true C S C' S' nc cc ns cs1 cc' cs' (m : Int) vss s W h1 h2 h3 h4 (by omega) (by omega) (fun j => by have := hrl j; omega)
      rw [hv] at CV CFm
      simp only [if_true] at CFm
      have hb0' := hb0
      obtain ⟨sb, hsb⟩ : ∃ sb : ByteArray, sb = ⟨(gTxt vss s (m : Int)).toArray⟩ := ⟨_, rfl⟩
      rw [← hsb] at CFm CPa CRF
      clear hv ht hC hS hrl f1 f2 f3 G hsl hsb
      go_enter Tryz.func8, Tryz.ntmps8
      go_upto_region 7 with (first
        | (go_at_call 12; ((with_reducible refine (HTW _ hb0).out.mono ?_); rintro e w1 ⟨rfl, hb1⟩; have hb01 := below_step hb0 hb1; have e0 := (hb1.cell (p := ⟨w.heap.size, 0, none⟩) dlt).trans d0; have e1 := (hb1.cell (p := ⟨w.heap.size, 1, none⟩) dlt).trans d1; have e2 := (hb1.cell (p := ⟨w.heap.size, 2, none⟩) dlt).trans d2; have elt := Nat.lt_of_lt_of_le dlt hb1.size))
        | (go_at_call 24; ((with_reducible refine (CF _ hb01).out.mono ?_); rintro e w2 ⟨rfl, hb2⟩; have hb02 := below_step hb01 hb2; have g0 := (hb2.cell (p := ⟨w.heap.size, 0, none⟩) elt).trans e0; have g1 := (hb2.cell (p := ⟨w.heap.size, 1, none⟩) elt).trans e1; have g2 := (hb2.cell (p := ⟨w.heap.size, 2, none⟩) elt).trans e2; have glt := Nat.lt_of_lt_of_le elt hb2.size))
        | (go_at_call 29; ((with_reducible refine (CFm _ hb02).out.mono ?_); rintro e w3 ⟨rfl, hb3⟩; have hb03 := below_step hb02 hb3; have i0 := (hb3.cell (p := ⟨w.heap.size, 0, none⟩) glt).trans g0; have i1 := (hb3.cell (p := ⟨w.heap.size, 1, none⟩) glt).trans g1; have i2 := (hb3.cell (p := ⟨w.heap.size, 2, none⟩) glt).trans g2; have ilt := Nat.lt_of_lt_of_le glt hb3.size))
        | (go_at_call 16; ((with_reducible refine (CP C S cc cs _ (HC.out.keep hb03)).out.mono ?_); rintro e w4 ⟨A4, c4, rfl, hR4, hb4⟩; have hb04 := below_step hb03 hb4; have j0 := (hb4.cell (p := ⟨w.heap.size, 0, none⟩) ilt).trans i0; have j1 := (hb4.cell (p := ⟨w.heap.size, 1, none⟩) ilt).trans i1; have j2 := (hb4.cell (p := ⟨w.heap.size, 2, none⟩) ilt).trans i2; have jlt := Nat.lt_of_lt_of_le ilt hb4.size))
        | (go_at_call 25; ((with_reducible refine (CV A4 S c4 cs _ hR4 (HS.out.keep hb04)).out.mono ?_); rintro e w5 ⟨rfl, hb5⟩; have hb05 := below_step hb04 hb5; have k0 := (hb5.cell (p := ⟨w.heap.size, 0, none⟩) jlt).trans j0; have k1 := (hb5.cell (p := ⟨w.heap.size, 1, none⟩) jlt).trans j1; have k2 := (hb5.cell (p := ⟨w.heap.size, 2, none⟩) jlt).trans j2; have klt := Nat.lt_of_lt_of_le jlt hb5.size))
        | (go_at_call 30; ((with_reducible refine (CPa _ hb05).out.mono ?_); rintro e w6 ⟨K, kc, L, lc, rfl, hK, hL, hb6⟩; have hb6' := below_step hb6 (below_alloc w6 (cbox K nc kc L ns lc (m : Int))); have hb06 := below_step hb05 hb6'; have l0 := (hb6'.cell (p := ⟨w.heap.size, 0, none⟩) klt).trans k0; have l1 := (hb6'.cell (p := ⟨w.heap.size, 1, none⟩) klt).trans k1; have l2 := (hb6'.cell (p := ⟨w.heap.size, 2, none⟩) klt).trans k2; have llt := Nat.lt_of_lt_of_le klt hb6'.size; have HX := DB.newT w6 K nc kc L ns lc (m : Int) 28; have hK6 := hK.keep (below_alloc w6 (cbox K nc kc L ns lc (m : Int))); have hL6 := hL.keep (below_alloc w6 (cbox K nc kc L ns lc (m : Int))))))
      obtain ⟨x0, x1, x2, xlt⟩ := HX
      obtain ⟨gX, hgX⟩ : ∃ gX, w6.heap.size = gX := ⟨_, rfl⟩
      rw [hgX] at x0 x1 x2 xlt ⊢
      generalize w6.alloc (cbox K nc kc L ns lc (m : Int)) = wX at *
      have hbD : Below wX.heap.size wX wX.drew := (Below.refl _ _).drew
      have HK := Lib.hid hK6
      have HL := Lib.hid hL6
      have HCX := Lib.hid (HC.out.keep hb06)
      have HSX := Lib.hid (HS.out.keep hb06)
      clear hgX hK hL hK6 hL6 hb1 hb2 hb3 hb4 hb5 hb6 hb6' d0 d1 d2 e0 e1 e2 g0 g1 g2 i0 i1 i2 j0 j1 j2 k0 k1 k2 hb01 hb02 hb03 hb04 hb05 hb0 klt jlt ilt glt elt dlt hR4 CF CFm CV CPa HTW
      go_region_held3 (fun w' => (w'.cell? ⟨w.heap.size, 0, none⟩ = some (.slice C nc cc) ∧ w'.cell? ⟨w.heap.size, 1, none⟩ = some (.slice S ns cs) ∧ w'.cell? ⟨w.heap.size, 2, none⟩ = some (.int .i64 (m : Int))) ∧ (w'.cell? ⟨gX, 0, none⟩ = some (.slice K nc kc) ∧ w'.cell? ⟨gX, 1, none⟩ = some (.slice L ns lc) ∧ w'.cell? ⟨gX, 2, none⟩ = some (.int .i64 (m : Int))))
        (first
          | go_keep
          | exact ⟨⟨(zz11.cell (p := ⟨w.heap.size, 0, none⟩) llt).trans l0, (zz11.cell (p := ⟨w.heap.size, 1, none⟩) llt).trans l1, (zz11.cell (p := ⟨w.heap.size, 2, none⟩) llt).trans l2⟩, ⟨(zz11.cell (p := ⟨gX, 0, none⟩) xlt).trans x0, (zz11.cell (p := ⟨gX, 1, none⟩) xlt).trans x1, (zz11.cell (p := ⟨gX, 2, none⟩) xlt).trans x2⟩⟩
          | exact ⟨⟨(zz10.cell (p := ⟨w.heap.size, 0, none⟩) llt).trans l0, (zz10.cell (p := ⟨w.heap.size, 1, none⟩) llt).trans l1, (zz10.cell (p := ⟨w.heap.size, 2, none⟩) llt).trans l2⟩, ⟨(zz10.cell (p := ⟨gX, 0, none⟩) xlt).trans x0, (zz10.cell (p := ⟨gX, 1, none⟩) xlt).trans x1, (zz10.cell (p := ⟨gX, 2, none⟩) xlt).trans x2⟩⟩
          | exact ⟨⟨(zz9.cell (p := ⟨w.heap.size, 0, none⟩) llt).trans l0, (zz9.cell (p := ⟨w.heap.size, 1, none⟩) llt).trans l1, (zz9.cell (p := ⟨w.heap.size, 2, none⟩) llt).trans l2⟩, ⟨(zz9.cell (p := ⟨gX, 0, none⟩) xlt).trans x0, (zz9.cell (p := ⟨gX, 1, none⟩) xlt).trans x1, (zz9.cell (p := ⟨gX, 2, none⟩) xlt).trans x2⟩⟩
          | exact ⟨⟨(zz8.cell (p := ⟨w.heap.size, 0, none⟩) llt).trans l0, (zz8.cell (p := ⟨w.heap.size, 1, none⟩) llt).trans l1, (zz8.cell (p := ⟨w.heap.size, 2, none⟩) llt).trans l2⟩, ⟨(zz8.cell (p := ⟨gX, 0, none⟩) xlt).trans x0, (zz8.cell (p := ⟨gX, 1, none⟩) xlt).trans x1, (zz8.cell (p := ⟨gX, 2, none⟩) xlt).trans x2⟩⟩
          | exact ⟨⟨(zz7.cell (p := ⟨w.heap.size, 0, none⟩) llt).trans l0, (zz7.cell (p := ⟨w.heap.size, 1, none⟩) llt).trans l1, (zz7.cell (p := ⟨w.heap.size, 2, none⟩) llt).trans l2⟩, ⟨(zz7.cell (p := ⟨gX, 0, none⟩) xlt).trans x0, (zz7.cell (p := ⟨gX, 1, none⟩) xlt).trans x1, (zz7.cell (p := ⟨gX, 2, none⟩) xlt).trans x2⟩⟩)
        (first
          | (go_at_call 15; ((with_reducible refine (CS _ _ _ _ _ _ _ _ _ (hR9.keep hb10) (HL.out.keep zz10) hR10 (HSX.out.keep zz10)).out.mono ?_); rintro e w11 ⟨rfl, hb11⟩; have zz11 := below_step zz10 hb11))
          | (go_at_call 16; ((with_reducible refine (CP C S cc cs _ (HCX.out.keep zz9)).out.mono ?_); rintro e w10 ⟨A10, c10, rfl, hR10, hb10⟩; have zz10 := below_step zz9 hb10))
          | (go_at_call 16; ((with_reducible refine (CP K L kc lc _ (HK.out.keep zz8)).out.mono ?_); rintro e w9 ⟨A9, c9, rfl, hR9, hb9⟩; have zz9 := below_step zz8 hb9))
          | (go_at_call 31; ((with_reducible refine (CRF A7 S c7 cs _ hR7 (HSX.out.keep zz7)).out.mono ?_); rintro e w8 ⟨rfl, hb8⟩; have zz8 := below_step zz7 hb8))
          | (go_at_call 16; ((with_reducible refine (CP C S cc cs _ (HCX.out.keep hbD)).out.mono ?_); rintro e w7 ⟨A7, c7, rfl, hR7, hb7⟩; have zz7 := below_step hbD hb7)))
      go_wp2
      go_ret
      exact ⟨rfl, below_step hb06 zz11⟩

end Go.Proofs.YtdacjnmfmhkpiaaGreatDoor

/- append of a list onto an empty slice of the call's own, at a step of a region that draws. -/
namespace Go.Proofs.YtdacjnmfmhkpiaaGreatDoor
open Go.ChangeShapes Go.WideShapes Go.ChangeAt Go.RowKit

theorem OI.empty_at {w : World} {B g : Nat} (hh : w.heap[g]? = some (.cells #[] 3 (0, 0))) (hB : B ≤ g) : OI w B (.slice (some ⟨g, 0, none⟩) 0 0) [] :=
  ⟨rfl, .inr ⟨g, 0, #[], rfl, hB, hh, Nat.le_refl _, by simp [maxLen], rfl, rfl⟩⟩

theorem heap_two0 (w : World) (o o' : Obj) : ((w.alloc o).alloc o').heap[w.heap.size]? = some o := (Below.heap_alloc (w.alloc o) o' w.heap.size (by simp)).trans (heap_alloc_new w o)
theorem heap_two1 (w : World) (o o' : Obj) : ((w.alloc o).alloc o').heap[w.heap.size + 1]? = some o' := by
  have := heap_alloc_new (w.alloc o) o'
  simpa using this

set_option maxRecDepth 100000 in
/-- append of a slice that reads as a list to an empty slice of the call's own, at a step of a region that draws. -/
theorem step_append_new {ops : Array Oper} {o : Oper} {a : Act} {w : World} {K : Act → World → Prop} {Q : Exit → Act → World → Prop} {E : Prop} (hgd : o.guard = none) (s x : Operand)
    (ho : o.op = .call { callee := .builtin .append, args := #[s, x], argTypes := #[22, 22] }) (B g : Nat) (hs : a.eval s = .slice (some ⟨g, 0, none⟩) 0 0)
    (hh : w.heap[g]? = some (.cells #[] 3 (0, 0))) (hB : B ≤ g) (A : Option Addr) (n c : Nat) (xs : List Int) (hx : a.eval x = .slice A n c) (hr : RI w A n xs) (hn : n ≤ 1000000)
    (h : ∀ A' c' w' k, OI w' B (.slice A' n c') xs → (Value.slice A' n c').ownBlock = some k → (k = g ∨ k = w.heap.size) → k < w'.heap.size → w.grownBy w' (some g) → K (a.put o.dst (.slice A' n c')) w') :
    if Region.wanted o (yielded ops a.tmps) = true then Oper.wp Tryz.prog o a w K Q else E := by
  have hw : Region.wanted o (yielded ops a.tmps) = true := by simp [Region.wanted, hgd]
  rw [if_pos hw]
  obtain ⟨i0, hi, hz0, hz1, hz2⟩ := info_parts Tryz.infoInt
  have hown := OI.empty_at hh hB
  have hgs : g < w.heap.size := by
    rcases Nat.lt_or_ge g w.heap.size with hlt | hge
    · exact hlt
    · rw [Array.getElem?_eq_none hge] at hh; cases hh
  have hl := hr.1
  cases A with
  | none =>
    have h0 : n = 0 := by
      rcases Nat.eq_zero_or_pos n with h0 | h0
      · exact h0
      · obtain ⟨b, off, e, _⟩ := hr.2 h0
        cases e
    subst h0
    have hxs : xs = [] := List.length_eq_zero_iff.1 hl
    subst hxs
    have hrun : (Builtin.append_ #[22, 22] o.type #[.slice (some ⟨g, 0, none⟩) 0 0, .slice none 0 c]).run Tryz.prog w = .ok (.slice (some ⟨g, 0, none⟩) 0 0) w := by
      simp [Builtin.append_, run_underlying Tryz.underlying22, sizeOf, typeInfo, hi, Builtin.lenOf, Builtin.firstCells, storeCells]
    unfold Oper.wp execOp
    simp only [ho, resolve, invoke, builtin, Sem.run_bind, Sem.run_pure, Result.andThen_ok, List.map_toArray, List.map_cons, List.map_nil, hs, hx, hrun]
    exact h _ _ w g hown rfl (.inl rfl) hgs (World.grownBy.refl w _)
  | some ad =>
    have hcells : ∀ j u, (ints xs)[j]? = some u → w.cell? (ad.add j) = some u := by
      intro j u hj
      have hjn : j < xs.length := by
        have := (List.getElem?_eq_some_iff.1 hj).1
        simpa [ints] using this
      obtain ⟨b, off, e, _, hc⟩ := hr.2 (by omega)
      obtain rfl := Option.some.inj e
      rw [add_plain, hc j (by omega)]
      simp [ints, hjn] at hj
      rw [← hj]
      simp [List.getD, hjn]
    obtain ⟨v', w', hrun, h1, h2, _, h3⟩ := run_append_own_at (P := Tryz.prog) w B 22 o.type 3 i0 (.int .i64 0) 1 8 Tryz.underlying22 hi hz0 hz1 hz2 rfl (by decide) (.slice (some ⟨g, 0, none⟩) 0 0) 0 [] hown ad n c (ints xs) (by simp [ints, hl]) hcells
      (fun u hu => by simp [ints] at hu; obtain ⟨z, _, rfl⟩ := hu; rfl) (by unfold maxLen; omega) (by omega) (by omega)
    have hv : ∃ A' c', v' = .slice A' n c' := by
      rcases h1.2 with ⟨e, e2⟩ | ⟨g', cap', cur, e, _⟩
      · exact ⟨none, 0, by rw [e]; simp at e2; rw [e2]⟩
      · exact ⟨some ⟨g', 0, none⟩, cap', by rw [e]; simp⟩
    obtain ⟨A', c', rfl⟩ := hv
    unfold Oper.wp execOp
    simp only [ho, resolve, invoke, builtin, Sem.run_bind, Sem.run_pure, Result.andThen_ok, List.map_toArray, List.map_cons, List.map_nil, hs, hx, hrun]
    have ho : OI w' B (.slice A' n c') xs := by
      unfold OI
      simpa [ints, hl] using h1
    rcases h3 with h3 | h3
    · exact h _ _ w' g ho h3 (.inl rfl) (World.ownsRow.lt ho g h3).2 h2
    · exact h _ _ w' w.heap.size ho h3 (.inr rfl) (World.ownsRow.lt ho _ h3).2 h2

end Go.Proofs.YtdacjnmfmhkpiaaGreatDoor
