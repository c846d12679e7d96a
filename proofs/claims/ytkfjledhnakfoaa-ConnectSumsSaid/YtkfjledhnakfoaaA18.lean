import Derived.Test.YtkfjledhnakfoaaA12
import Derived.Test.YtkfjledhnakfoaaA13
import Derived.Test.YtkfjledhnakfoaaShelf
import Derived.Test.YtkfjledhnakfoaaA04
import Derived.Test.YtkfjledhnakfoaaA15
import Derived.Sort.OwnSortedInts
/- Walks: IndexFunc over the components, partAt. -/
namespace Go.Proofs.Ytkfjledhnakfoaa
open Go.RowKit

theorem contains_ri {w : World} {A : Option Addr} {n c : Nat} {xs : List Int} (x : Int) (h : RI w A n xs) (hn : n ≤ 1000) : Calls Try.prog 116 #[.slice A n c, .int .i64 x] w fun e w' => e = .returned (.bool (xs.contains x)) ∧ w' = w := by
  obtain ⟨hl, hc⟩ := h
  by_cases h0 : 0 < n
  · obtain ⟨b, off, rfl, _, hcell⟩ := hc h0
    have := Try.slices_Contains_int b off n c xs x w (by omega) (by omega) (fun j hj => hcell j (by omega))
    rw [List.take_of_length_le (by omega)] at this
    exact this
  · obtain rfl : n = 0 := by omega
    have hx : xs = [] := List.eq_nil_of_length_eq_zero hl
    subst hx
    exact Try.slices_Contains_int_empty A c x w
theorem enters_at : Enters 115 := fun _ _ => by kernel_rfl
theorem at_any (gh h : Nat) (A : Option Addr) (n c : Nat) (xs : List Int) (w : World) (hh : w.cell? ⟨gh, 0, none⟩ = some (.int .i64 (h : Nat))) (hr : RI w A n xs) (hn : n ≤ 1000) (hh1 : h ≤ 1000) :
    Calls Try.prog 115 #[.slice A n c, .pointer (some ⟨gh, 0, none⟩)] w fun e w' => e = .returned (.bool (xs.contains ((h / 4 : Nat) : Int))) ∧ w' = w := by
  have C := Lib.hid (contains_ri (c := c) (((h / 4 : Nat) : Int)) hr hn)
  obtain ⟨q, hq⟩ : ∃ q, h / 4 = q := ⟨_, rfl⟩
  rw [hq] at C ⊢
  have h0 : (0 : Int) ≤ (h : Int) := Int.natCast_nonneg _
  have h1 : (h : Int) ≤ 1000 := by omega
  have hd : (h : Int) / 4 = (q : Int) := by omega
  have q0 : (0 : Int) ≤ (q : Int) := Int.natCast_nonneg _
  have q1 : (q : Int) ≤ 1000 := by omega
  have wq : IntKind.i64.wrap ((q : Nat) : Int) = (q : Int) := IntWalk.i64_in _ (by omega)
  obtain ⟨bb, hbb⟩ : ∃ bb, xs.contains (q : Int) = bb := ⟨_, rfl⟩
  rw [hbb] at C ⊢
  clear hr hq hbb
  go_enter Try.func115, Try.ntmps115
  go_wp2_with (go_at_call 116; ((with_reducible refine C.out.mono ?_); rintro e w1 ⟨rfl, hw⟩))
  go_ret
  exact ⟨rfl, rfl⟩

set_option maxHeartbeats 3200000 in
set_option maxRecDepth 100000 in
theorem idx_any (gh h L c j0 : Nat) (A : Option Addr) (xss : List (List Int)) (w : World) (hL : xss.length = L) (hL1 : L ≤ 1000) (hh : w.cell? ⟨gh, 0, none⟩ = some (.int .i64 (h : Nat))) (hh1 : h ≤ 1000)
    (hrow : ∀ i, i < L → ∃ g A' n' c', A = some ⟨g, 0, none⟩ ∧ w.cell? ⟨g, i, none⟩ = some (.slice A' n' c') ∧ RI w A' n' (xss.getD i []) ∧ n' ≤ 1000) (hj : j0 < L) (hj1 : (xss.getD j0 []).contains ((h / 4 : Nat) : Int) = true) (hj2 : ∀ i, i < j0 → (xss.getD i []).contains ((h / 4 : Nat) : Int) = false) :
    Calls Try.prog 114 #[.slice A L c, .func (.func 115) #[] #[.pointer (some ⟨gh, 0, none⟩)]] w fun e w' => e = .returned (.int .i64 (j0 : Nat)) ∧ w' = w := by
  have hcf : ∀ (args : Array Value) (W : World), (callFunc 115 args).run Try.prog W = .ok (.enter 115 args) W := enters_at
  have HROW := Lib.hid hrow
  have HJ2 := Lib.hid hj2
  have HJ1 := Lib.hid hj1
  have hLi : (L : Int) ≤ 1000 := by omega
  have HH := Lib.hid hh
  clear hrow hj1 hj2 hh hL
  go_enter Try.func114, Try.ntmps114
  go_wp2
  go_loopw [5, 8] (fun _ i wr => ∃ k : Nat, k ≤ j0 ∧ i = .int .i64 k ∧ wr = w) (fun _ i _ => L - (intOf i).toNat)
  case atStart => exact ⟨0, by omega, rfl, rfl⟩
  case round =>
    obtain ⟨k, hk, rfl, hw⟩ := hrel
    subst hw
    have hk0 : (0 : Int) ≤ (k : Int) := Int.natCast_nonneg _
    have hk1 : (k : Int) < (L : Int) := by omega
    obtain ⟨g, A', n', c', rfl, hcel, hri, hn'⟩ := HROW.out k (by omega)
    have C := Lib.hid (at_any gh h A' n' c' (xss.getD k []) wr HH.out hri hn' hh1)
    by_cases hkj : k < j0
    · rw [HJ2.out k hkj] at C
      clear hri
      go_wp2_with ((with_reducible refine C.out.mono ?_); rintro e w1 ⟨rfl, hw1⟩; obtain rfl := hw1)
      go_roundw
      case rel => exact ⟨k + 1, by omega, by go_num, by first | rfl | trivial⟩
      case measure => simp [intOf]; omega
    · obtain rfl : j0 = k := by omega
      rw [HJ1.out] at C
      clear hri
      go_wp2_with ((with_reducible refine C.out.mono ?_); rintro e w1 ⟨rfl, hw1⟩; obtain rfl := hw1)
      go_ret
      exact ⟨rfl, rfl⟩

/-- The part of the component of crossing c. -/
def ptPhi (m : List Int) (n c : Nat) : Nat → Nat := fun i => (memN (labM m) n (labM m c)).getD i 0
def ptLen (m : List Int) (n c : Nat) : Nat := (memN (labM m) n (labM m c)).length
theorem pt_enum (m : List Int) (n c : Nat) : Enum (fun b => labM m b == labM m c) n (ptLen m n c) (ptPhi m n c) := memN_enum _ _ _
/-- Where the component of crossing c stands in the list of components. -/
theorem graph_place {s m : List Int} {lp : Int} {n c : Nat} (hv : validB s m lp = true) (hn : s.length = n) (hc : c < n) :
    ∃ j, j < (graphM s m lp).length ∧ (graphM s m lp).getD j [] = memb (labM m) n (labM m c) ∧ ((graphM s m lp).getD j []).contains (c : Int) = true ∧ ∀ i, i < j → ((graphM s m lp).getD i []).contains (c : Int) = false := by
  have e : graphM s m lp = graphL (labM m) n := by unfold graphM; rw [if_pos hv, hn]
  rw [e]
  have hr : labM m c ∈ roots (labM m) n := by
    unfold roots
    rw [List.mem_filter, List.mem_range]
    exact ⟨by have := labM_le m c; omega, by simp [labM_idem]⟩
  obtain ⟨j, hj, hje⟩ := List.mem_iff_getElem.1 hr
  have hjl : j < (graphL (labM m) n).length := by rw [graphL_length]; exact hj
  obtain ⟨_, hg⟩ := graphL_get (labM m) n hjl
  have hmem : ∀ i (hi : i < (graphL (labM m) n).length), ((graphL (labM m) n).getD i []).contains (c : Int) = true → i = j := fun i hi h => by
    obtain ⟨hi', hgi⟩ := graphL_get (labM m) n hi
    rw [hgi, List.contains_iff_mem, mem_memb] at h
    have hnd := roots_nodup (labM m) n
    have e2 : (roots (labM m) n)[i] = (roots (labM m) n)[j] := by rw [hje]; exact h.2.symm
    rcases Nat.lt_trichotomy i j with q | q | q
    · exact absurd e2 (List.pairwise_iff_getElem.1 hnd i j hi' hj q)
    · exact q
    · exact absurd e2.symm (List.pairwise_iff_getElem.1 hnd j i hj hi' q)
  refine ⟨j, hjl, by rw [hg, hje], ?_, fun i hi => ?_⟩
  · rw [hg, hje, List.contains_iff_mem, mem_memb]; exact ⟨hc, rfl⟩
  · cases q : ((graphL (labM m) n).getD i []).contains (c : Int) with
    | false => rfl
    | true => have := hmem i (by omega) q; omega

set_option maxHeartbeats 6400000 in
set_option maxRecDepth 100000 in
theorem partAt_any (A B : Option Addr) (ns cs nm cm h : Nat) (lp : Int) (s m : List Int) (w : World) (hd : DV w A ns B nm s m) (hv : validB s m lp = true) (hcap : nm ≤ cm ∧ cm ≤ 9223372036854775807) (hh : h < nm) :
    Calls Try.prog 82 #[dval A ns cs B nm cm lp, .int .i64 (h : Nat)] w (PtPost w (ptLen m ns (h / 4)) (ptS s (ptPhi m ns (h / 4)) (ptLen m ns (h / 4))) (ptM (ptPhi m ns (h / 4)) (ptLen m ns (h / 4)) (matesOf m) (4 * ptLen m ns (h / 4)))) := by
  obtain ⟨hnm, hns, hM, _, _⟩ := cn_data hv hd.hs.1 hd.hm.1
  have hmf : ∀ (fn : Fn) (first cap : Array Value) (w : World), (Instr.makeFunc fn first cap).run Try.prog w = .ok (.func fn first cap) w := fun _ _ _ _ => rfl
  obtain ⟨j0, hj0, hj1, hj2, hj3⟩ := graph_place hv hd.hs.1 (c := h / 4) (by omega)
  have hE := pt_enum m ns (h / 4)
  have hK : ptLen m ns (h / 4) ≤ 64 := by unfold ptLen memN; exact Nat.le_trans (List.length_filter_le _ _) (by simp; omega)
  have hGL : (graphM s m lp).length ≤ 64 := by
    unfold graphM
    rw [if_pos hv, graphL_length, hd.hs.1]
    exact Nat.le_trans (roots_length _ _) hns
  have hrows : ∀ i, ((graphM s m lp).getD i []).length ≤ 1000 := fun i => by
    by_cases hi : i < (graphM s m lp).length
    · have e : graphM s m lp = graphL (labM m) ns := by unfold graphM; rw [if_pos hv, hd.hs.1]
      rw [e] at hi ⊢
      obtain ⟨_, hg⟩ := graphL_get (labM m) ns hi
      rw [hg]
      have := memb_length (labM m) ns ((roots (labM m) ns)[i])
      omega
    · simp [List.getD, List.getElem?_eq_none (Nat.le_of_not_lt hi)]
  have hxs : ∀ i, i < ptLen m ns (h / 4) → ((graphM s m lp).getD j0 []).getD i 0 = (ptPhi m ns (h / 4) i : Nat) ∧ ptPhi m ns (h / 4) i < ns := fun i hi => by
    refine ⟨?_, hE.lt i hi⟩
    rw [hj1, memb_memN]
    unfold ptLen at hi
    unfold ptPhi
    simp [List.getD, hi]
  have hxl : ((graphM s m lp).getD j0 []).length = ptLen m ns (h / 4) := by rw [hj1, memb_memN, List.length_map]; rfl
  have hb1 := below_alloc w (dbox A ns cs B nm cm lp)
  have hb2 := below_alloc (w.alloc (dbox A ns cs B nm cm lp)) (.cells #[.int .i64 (h : Int)] 3)
  have hb3 := below_alloc ((w.alloc (dbox A ns cs B nm cm lp)).alloc (.cells #[.int .i64 (h : Int)] 3)) (.cells #[.slice none 0 0, .slice none 0 0, .int .i64 0] 24)
  have hdb := ((DB.new w A ns cs B nm cm lp).keep hb2).keep hb3
  have hhc : (((w.alloc (dbox A ns cs B nm cm lp)).alloc (.cells #[.int .i64 (h : Int)] 3)).alloc (.cells #[.slice none 0 0, .slice none 0 0, .int .i64 0] 24)).cell? ⟨w.heap.size + 1, 0, none⟩ = some (.int .i64 (h : Int)) := by
    rw [World.cell?_alloc_past _ _ _ (by simp), show w.heap.size + 1 = (w.alloc (dbox A ns cs B nm cm lp)).heap.size by simp, World.cell?_alloc_at _ _ _ _ rfl]; rfl
  have hbx := bxz_new ((w.alloc (dbox A ns cs B nm cm lp)).alloc (.cells #[.int .i64 (h : Int)] 3))
  have hb := below_step (below_step hb1 hb2) hb3
  have hsz2 : ((w.alloc (dbox A ns cs B nm cm lp)).alloc (.cells #[.int .i64 (h : Int)] 3)).heap.size = w.heap.size + 2 := by simp
  have hsz3 : (((w.alloc (dbox A ns cs B nm cm lp)).alloc (.cells #[.int .i64 (h : Int)] 3)).alloc (.cells #[.slice none 0 0, .slice none 0 0, .int .i64 0] 24)).heap.size = w.heap.size + 3 := by simp
  rw [hsz2] at hbx
  have HD := Lib.hid hd
  have HV := Lib.hid hv
  have HJ := Lib.hid (⟨hj2, hj3⟩ : ((graphM s m lp).getD j0 []).contains ((h / 4 : Nat) : Int) = true ∧ ∀ i, i < j0 → ((graphM s m lp).getD i []).contains ((h / 4 : Nat) : Int) = false)
  have HXS := Lib.hid hxs
  have HXL := Lib.hid hxl
  have HR := Lib.hid hrows
  obtain ⟨G, hG⟩ : ∃ G, graphM s m lp = G := ⟨_, rfl⟩
  obtain ⟨K, hKe⟩ : ∃ K, ptLen m ns (h / 4) = K := ⟨_, rfl⟩
  obtain ⟨phi, hphi⟩ : ∃ phi, ptPhi m ns (h / 4) = phi := ⟨_, rfl⟩
  have CG : Hid (∀ W, Below w.heap.size w W → Calls Try.prog 30 #[dval A ns cs B nm cm lp] W (CycsPost W G)) := Lib.hid fun W hW => by rw [← hG]; exact graph_any A B ns cs nm cm lp s m W (HD.out.keep hW)
  rw [hG] at HJ HXS HXL HR hj0 hGL
  rw [hKe] at HXS HXL hK ⊢
  rw [hphi] at HXS ⊢
  obtain ⟨L, hL⟩ : ∃ L, G.length = L := ⟨_, rfl⟩
  have HLG := Lib.hid hL
  rw [hL] at hj0 hGL
  have hLi : (L : Int) ≤ 64 := by omega
  have j0i : (0 : Int) ≤ (j0 : Int) := Int.natCast_nonneg _
  have j1i : (j0 : Int) < (L : Int) := by omega
  have hh1 : h ≤ 1000 := by omega
  have HNM := Lib.hid hnm
  clear hb1 hb2 hb3 hsz2 hd hv hj1 hj2 hj3 hE hrows hxs hxl hG hKe hphi hL hM hnm
  unfold dbox at hdb hhc hbx hb hsz3
  go_enter Try.func82, Try.ntmps82
  go_upto_region 1 with fail
  generalize ((w.alloc (.cells #[.slice A ns cs, .slice B nm cm, .int .i64 lp] 24)).alloc (.cells #[.int .i64 (h : Int)] 3)).alloc (.cells #[.slice none 0 0, .slice none 0 0, .int .i64 0] 24) = w0 at hdb hhc hbx hb hsz3 ⊢
  rw [show w.heap.size + 1 + 1 = w.heap.size + 2 by omega]
  obtain ⟨gd, hgd⟩ : ∃ gd, w.heap.size = gd := ⟨_, rfl⟩
  obtain ⟨gh, hgh⟩ : ∃ gh, w.heap.size + 1 = gh := ⟨_, rfl⟩
  obtain ⟨gr, hgr⟩ : ∃ gr, w.heap.size + 2 = gr := ⟨_, rfl⟩
  have HG : Hid (gd = w.heap.size ∧ gh = gd + 1 ∧ gr = gd + 2 ∧ w0.heap.size = gd + 3) := Lib.hid ⟨hgd.symm, by omega, by omega, by omega⟩
  rw [hgh] at hhc ⊢
  rw [hgr] at hbx ⊢
  rw [hgd] at hdb ⊢
  have HB := Lib.hid hb
  have HBX := Lib.hid hbx
  have HDB := Lib.hid hdb
  obtain ⟨d0, d1, d2, dlt⟩ := hdb
  have CG0 := Lib.hid (CG.out w0 hb)
  have hghl : gh < w0.heap.size := by have := HG.out; omega
  have HHC := Lib.hid hhc
  clear hb hbx hgd hgh hgr hsz3 CG hhc
  go_upto_region 2 with (go_at_call 30; ((with_reducible refine CG0.out.mono ?_); rintro e w1 ⟨v, rfl, oG, hb1⟩; obtain ⟨GA, Gc, rfl⟩ := oG.form))
  have hrow : ∀ i, i < L → ∃ g A' n' c', GA = some ⟨g, 0, none⟩ ∧ w1.cell? ⟨g, i, none⟩ = some (.slice A' n' c') ∧ RI w1 A' n' (G.getD i []) ∧ n' ≤ 1000 := fun i hi => by
    obtain ⟨_, g, A', n', c', e1, _, _, h3, h4⟩ := oG.el i (by rw [HLG.out]; exact hi)
    exact ⟨g, A', n', c', e1, h3, h4.ri, by have := h4.ri.1; have := HR.out i; omega⟩
  have oG2 := oG
  rw [HLG.out] at oG2 ⊢
  obtain ⟨gA, A', n', c', hGA, hrc, hri, hn'⟩ := hrow j0 hj0
  have hgrA : gr ≠ gA := fun e => by
    have h1 := oG2.lt gA (by rw [hGA]; rfl)
    have := HG.out; omega
  subst hGA
  have hgl : gA < w1.heap.size := World.block_lt_of_cell? w1 _ hrc
  have CI := Lib.hid (idx_any gh h L Gc j0 _ G w1 HLG.out (by omega) ((hb1.cell (p := ⟨gh, 0, none⟩) hghl).trans HHC.out) hh1 hrow hj0 HJ.out.1 HJ.out.2)
  have hKn : K = n' := by have := hri.1; have := HXL.out; omega
  subst hKn
  have HN : Hid (gr ≠ gd ∧ gr ≠ gA) := Lib.hid ⟨by have := HG.out; omega, hgrA⟩
  have HRI := Lib.hid hri
  have HB1 := Lib.hid hb1
  have x0 := (hb1.cell (p := ⟨gd, 0, none⟩) dlt).trans d0
  have x1 := (hb1.cell (p := ⟨gd, 1, none⟩) dlt).trans d1
  have x2 := (hb1.cell (p := ⟨gd, 2, none⟩) dlt).trans d2
  have hdl1 := Nat.lt_of_lt_of_le dlt hb1.size
  clear oG oG2 hrow hri hb1 d0 d1 d2
  go_upto_region 3 with (go_at_call 114; ((with_reducible refine CI.out.mono ?_); rintro e w2 ⟨rfl, hw2⟩; obtain rfl := hw2))
  have hbD : Below w2.heap.size w2 w2.drew := (Below.refl _ _).drew
  have CP : Hid (Calls Try.prog 117 #[dval A ns cs B nm cm lp, .slice A' K c'] w2.drew (PtPost w2.drew K (ptS s phi K) (ptM phi K (matesOf m) (4 * K)))) := Lib.hid
    (part_any A B A' ns cs nm cm K c' lp s m (G.getD j0 []) phi w2.drew (HD.out.keep (below_step HB.out HB1.out).drew) HV.out hcap HRI.out hK HXS.out)
  go_region_held3 (fun w' => w'.cell? ⟨gd, 0, none⟩ = some (.slice A ns cs) ∧ w'.cell? ⟨gd, 1, none⟩ = some (.slice B nm cm) ∧ w'.cell? ⟨gd, 2, none⟩ = some (.int .i64 lp) ∧ w'.cell? ⟨gA, j0, none⟩ = some (.slice A' K c'))
    (first | exact ⟨x0, x1, x2, hrc⟩ | exact ⟨v0, v1, v2, v3⟩ | exact ⟨(set3_far w3 gr _ _ _ HN.out.1 0).trans v0, (set3_far w3 gr _ _ _ HN.out.1 1).trans v1, (set3_far w3 gr _ _ _ HN.out.1 2).trans v2, (set3_far w3 gr _ _ _ HN.out.2 j0).trans v3⟩ | go_keep)
    ((go_at_call 117; ((with_reducible refine CP.out.mono ?_); rintro e w3 ⟨A3, c3, B3, d3, rfl, oS, oM, hb3'⟩; have hb3 := below_step hbD hb3'; have v0 := (hb3.cell (p := ⟨gd, 0, none⟩) hdl1).trans x0; have v1 := (hb3.cell (p := ⟨gd, 1, none⟩) hdl1).trans x1; have v2 := (hb3.cell (p := ⟨gd, 2, none⟩) hdl1).trans x2; have v3 := (hb3.cell (p := ⟨gA, j0, none⟩) hgl).trans hrc; have hr := HBX.out.kp (below_step HB1.out hb3); have r0 := hr.1.1; have r1 := hr.1.2.1; have r2 := hr.1.2.2.1; have f0 := hr.2 0; have f1 := hr.2 1; have f2 := hr.2 2)))
  obtain ⟨q0, q1, q2⟩ := set3_cells w3 gr (.slice A3 K c3) (.slice B3 (4 * K) d3) (.int .i64 0) r0 r1 r2
  have HF : Hid (PtPost w K (ptS s phi K) (ptM phi K (matesOf m) (4 * K)) (.returned (dval A3 K c3 B3 (4 * K) d3 0)) (set3 w3 gr (.slice A3 K c3) (.slice B3 (4 * K) d3) (.int .i64 0))) := Lib.hid (by
    have hg := HG.out
    have hz := HB1.out.size
    refine ⟨A3, c3, B3, d3, rfl, (oS.set3 (fun e => ?_) _ _ _).mono (by simp; omega), (oM.set3 (fun e => ?_) _ _ _).mono (by simp; omega), set3_below (below_step HB.out (below_step HB1.out hb3)) (by omega) _ _ _⟩
    · have := (World.ownsRow.lt oS _ e).1; simp at this; omega
    · have := (World.ownsRow.lt oM _ e).1; simp at this; omega)
  go_wp2
  exact bodyPost_ret (v := dval A3 K c3 B3 (4 * K) d3 0) (by simp [results, Try.results82, go_sem, q0, q1, q2]) rfl HF.out

end Go.Proofs.Ytkfjledhnakfoaa

/- Walk: slices.Sort of a slice of the call's own; what the sorted edges are. -/
namespace Go.Proofs.Ytkfjledhnakfoaa
open Go.RowKit Go.Sort

def sortL (xs : List Int) : List Int := xs.mergeSort fun x y => decide (x ≤ y)
theorem sortL_length (xs : List Int) : (sortL xs).length = xs.length := by simp [sortL]
theorem sort_oi {w : World} {B n c : Nat} {A : Option Addr} {xs : List Int} (h : OI w B (.slice A n c) xs) (hl : xs.length = n) (hn : n ≤ 1000000) :
    Calls Try.prog 68 #[.slice A n c] w fun e w' => e = .returned (.tuple #[]) ∧ OI w' B (.slice A n c) (sortL xs) ∧ w.grownBy w' (Value.slice A n c).ownBlock := by
  subst hl
  rcases h.2 with ⟨e, h0⟩ | ⟨g, cap, cur, e, hB, hg, h1, h2, h3, h4⟩
  · injection e with e1 e2 e3
    subst e1; subst e3
    have hx : xs = [] := List.eq_nil_of_length_eq_zero h0
    subst hx
    refine (Try.slices_Sort_int_none none 0 w).mono ?_
    rintro e w' ⟨rfl, rfl⟩
    exact ⟨rfl, by rw [show sortL [] = [] by simp [sortL]]; exact h, ⟨rfl, rfl, rfl, Nat.le_refl _, fun _ _ _ => rfl⟩⟩
  · injection e with e1 e2 e3
    subst e1; subst e3
    have ht : cur.toList.take xs.length = xs.map (Value.int .i64) := by rw [Nat.mul_one] at h4; exact h4
    have hlt : g < w.heap.size := (Array.getElem?_eq_some_iff.1 hg).1
    refine (Try.slices_Sort_int g 0 c xs w (holds_of_blockI hg ht) hlt (by omega)).mono ?_
    rintro e w' ⟨rfl, n, os, rfl⟩
    refine ⟨rfl, ?_, grownBy_sortedI _⟩
    have := ownsRow_sortedI (n := n) (os := os) (ss := xs) (ts := sortL xs) (sortL_length xs) hB hg h1 h2 h3
    unfold OI
    rw [sortL_length]
    exact this

/-- The outgoing half-edges, in ascending order. -/
def outsL (s : List Int) (N : Nat) : List Int := ((List.range N).filter (outB s)).map fun (h : Nat) => (h : Int)
theorem sortL_unique {xs ys : List Int} (h : xs.Perm ys) (hs : ys.Pairwise (· ≤ ·)) : sortL xs = ys := by
  have h1 : (sortL xs).Pairwise (fun x y => decide (x ≤ y) = true) := List.pairwise_mergeSort (fun a b c h1 h2 => by simp at h1 h2 ⊢; omega) (fun a b => by simp; omega) xs
  have h2 : (sortL xs).Perm ys := (List.mergeSort_perm xs _).trans h
  refine List.Perm.eq_of_pairwise (le := fun x y => x ≤ y) (fun a b _ _ q1 q2 => Int.le_antisymm q1 q2) (h1.imp fun q => by simpa using q) hs h2
theorem cyc_itl (f : Nat → Nat) (N h : Nat) : itl f h (per f N h) = (cyc f N h).map fun (x : Nat) => (x : Int) := by unfold itl cyc; rw [List.map_map]; rfl
theorem strands_sorted {s m : List Int} {lp : Int} (hv : validB s m lp = true) : sortL (strandsM s m lp).flatten = outsL s m.length := by
  obtain ⟨v1, v2, v3, _⟩ := validB_out hv
  obtain ⟨l1, l2, _, _⟩ := limB_out v1
  have i := matesOf_invol v3 (rfl : m.length = m.length)
  have q : Perm (fs (matesOf m)) m.length := by rw [l2] at i ⊢; exact i.perm 2
  have hc : ClosedN (fs (matesOf m)) m.length (outB s) := fun h hh ho => out_closed v2 v3 rfl rfl l2 h hh ho
  have e : (strandsM s m lp).flatten = (flatN (fs (matesOf m)) m.length (outB s)).map fun (x : Nat) => (x : Int) := by
    unfold strandsM
    rw [if_pos hv, cycL_reprs]
    unfold flatN
    rw [List.map_flatten, List.map_map]
    congr 1
    exact List.map_congr_left fun h _ => cyc_itl _ _ _
  rw [e]
  refine sortL_unique ((flatN_perm q hc).map _) ?_
  unfold outsL
  rw [List.pairwise_map]
  exact (List.Pairwise.filter _ List.pairwise_lt_range).imp fun h => by omega

end Go.Proofs.Ytkfjledhnakfoaa
