import Derived.Test.YtdacjnmfmhkpiaaGreatDoorD05
import Derived.Maps.OwnOps
/- Walk: visitedOnce. -/
namespace Go.Proofs.YtdacjnmfmhkpiaaGreatDoor
open Go.RowKit Go.Maps

/-- The visits F are of crossings below n, and no two are alike. -/
def okV (n : Nat) (F : List Vis) : Prop := F.Nodup ∧ ∀ v ∈ F, 0 ≤ v.1 ∧ v.1 < (n : Int)
instance (n : Nat) (F : List Vis) : Decidable (okV n F) := by unfold okV; infer_instance
/-- The rows visit each of n crossings once over and once under. -/
def visB (vss : List (List Vis)) (n : Nat) : Bool := vss.all (fun l => !l.isEmpty) && decide (okV n vss.flatten) && decide (vss.flatten.length = 2 * n)
theorem visB_iff (vss : List (List Vis)) (n : Nat) : visB vss n = true ↔ (∀ l ∈ vss, l ≠ []) ∧ okV n vss.flatten ∧ vss.flatten.length = 2 * n := by
  unfold visB
  simp only [Bool.and_eq_true, List.all_eq_true, decide_eq_true_eq, Bool.not_eq_true', List.isEmpty_eq_false_iff, and_assoc]
theorem visB_empty {vss : List (List Vis)} {n k : Nat} (hk : k < vss.length) (h : vss.getD k [] = []) : visB vss n = false := by
  cases hv : visB vss n with
  | false => rfl
  | true =>
    have h1 := ((visB_iff _ _).1 hv).1 _ (List.getElem_mem hk)
    have e : vss.getD k [] = vss[k] := by simp [List.getD, hk]
    exact absurd (e.symm.trans h) h1
theorem okV_pre {n : Nat} {F G : List Vis} (h : okV n (F ++ G)) : okV n F := ⟨(List.nodup_append.1 h.1).1, fun v hv => h.2 v (List.mem_append_left _ hv)⟩
theorem okV_snoc {n : Nat} {F : List Vis} {v : Vis} : okV n (F ++ [v]) ↔ okV n F ∧ v ∉ F ∧ 0 ≤ v.1 ∧ v.1 < (n : Int) := by
  constructor
  · intro h
    refine ⟨okV_pre h, fun hv => ?_, h.2 v (by simp)⟩
    exact (List.nodup_append.1 h.1).2.2 v hv v (by simp) rfl
  · intro ⟨h, hv, hr⟩
    refine ⟨List.nodup_append.2 ⟨h.1, by simp, fun a ha b hb e => ?_⟩, fun u hu => ?_⟩
    · simp at hb; subst hb; subst e; exact hv ha
    · rcases List.mem_append.1 hu with hu | hu
      · exact h.2 u hu
      · simp at hu; subst hu; exact hr
theorem visB_bad {vss : List (List Vis)} {n : Nat} {F R : List Vis} {v : Vis} (e : vss.flatten = F ++ [v] ++ R) (h : ¬ (v ∉ F ∧ 0 ≤ v.1 ∧ v.1 < (n : Int))) : visB vss n = false := by
  cases hv : visB vss n with
  | false => rfl
  | true =>
    have h1 := ((visB_iff _ _).1 hv).2.1
    rw [e] at h1
    exact absurd (okV_snoc.1 (okV_pre h1)).2 h
theorem visB_end {vss : List (List Vis)} {n : Nat} (h1 : ∀ j, j < vss.length → vss.getD j [] ≠ []) (h2 : okV n vss.flatten) : visB vss n = decide (vss.flatten.length = 2 * n) := by
  have h3 : vss.all (fun l => !l.isEmpty) = true := by
    rw [List.all_eq_true]
    intro l hl
    obtain ⟨j, hj, rfl⟩ := List.mem_iff_getElem.1 hl
    have e : vss.getD j [] = vss[j] := by simp [List.getD, hj]
    have := h1 j hj
    rw [e] at this
    simpa using this
  unfold visB
  rw [h3, decide_eq_true h2]; rfl
theorem take_succ_getD {α : Type} (l : List α) (d : α) (k : Nat) (h : k < l.length) : l.take (k + 1) = l.take k ++ [l.getD k d] := by
  rw [List.take_succ_eq_append_getElem h]
  have e : l.getD k d = l[k] := by simp [List.getD, h]
  rw [e]
theorem flat_split {vss : List (List Vis)} {k q : Nat} (hk : k < vss.length) (hq : q < (vss.getD k []).length) : ∃ R, vss.flatten = ((vss.take k).flatten ++ (vss.getD k []).take q) ++ [(vss.getD k []).getD q v0] ++ R := by
  have e1 : vss = vss.take (k + 1) ++ vss.drop (k + 1) := (List.take_append_drop _ _).symm
  have e2 : (vss.getD k []) = (vss.getD k []).take (q + 1) ++ (vss.getD k []).drop (q + 1) := (List.take_append_drop _ _).symm
  refine ⟨(vss.getD k []).drop (q + 1) ++ (vss.drop (k + 1)).flatten, ?_⟩
  have e3 : vss.flatten = (vss.take (k + 1)).flatten ++ (vss.drop (k + 1)).flatten := by rw [← List.flatten_append, ← e1]
  rw [e3, take_succ_getD vss [] k hk, List.flatten_append]
  simp only [List.flatten_cons, List.flatten_nil, List.append_nil]
  have e4 : (vss.getD k []).take q ++ [(vss.getD k []).getD q v0] ++ (vss.getD k []).drop (q + 1) = vss.getD k [] := by
    rw [← take_succ_getD _ v0 q hq]; exact e2.symm
  calc (vss.take k).flatten ++ vss.getD k [] ++ (vss.drop (k + 1)).flatten
      = (vss.take k).flatten ++ ((vss.getD k []).take q ++ [(vss.getD k []).getD q v0] ++ (vss.getD k []).drop (q + 1)) ++ (vss.drop (k + 1)).flatten := by rw [e4]
    _ = _ := by simp only [List.append_assoc]
theorem flat_take_succ {vss : List (List Vis)} {k : Nat} (hk : k < vss.length) : (vss.take (k + 1)).flatten = (vss.take k).flatten ++ vss.getD k [] := by
  rw [take_succ_getD vss [] k hk, List.flatten_append]; simp

/-- The map in block b reads as the set F. -/
def SeenW (w : World) (b : Nat) (F : List Vis) : Prop := ∃ D : DataW Unit, w.ownsMap Tryz.prog 51 (plainElem Tryz.prog 4) b F.length D ∧ DSeen D F
/-- The first k rows are as they should be. -/
def Rows0 (vss : List (List Vis)) (k : Nat) : Prop := ∀ j, j < k → vss.getD j [] ≠ []

set_option maxHeartbeats 3200000 in
set_option maxRecDepth 100000 in
theorem once_any (C S : Option Addr) (nc cc ns cs : Nat) (lp : Int) (vss : List (List Vis)) (w : World) (hC : RVV w C nc vss) (hns : ns ≤ 1000000) (hnc : nc ≤ 1000000) (hfl : vss.flatten.length ≤ 1000000) :
    Calls Tryz.prog 50 #[dval C nc cc S ns cs lp] w fun e w' => e = .returned (.bool (visB vss ns)) ∧ Below w.heap.size w w' := by
  have hmm := @run_makeMap Tryz.prog
  have hd := DB.newT w C nc cc S ns cs lp 28
  have hb0 := below_alloc w (.cells #[.slice C nc cc, .slice S ns cs, .int .i64 lp] 28)
  have hcl := hC.1
  have HCL := Lib.hid hcl
  have HC := Lib.hid hC
  have HFL := Lib.hid hfl
  clear hcl hC hfl
  go_enter Tryz.func50, Tryz.ntmps50
  go_upto_region 2 with fail
  have hsz : (w.alloc (.cells #[.slice C nc cc, .slice S ns cs, .int .i64 lp] 28)).heap.size = w.heap.size + 1 := by simp
  generalize w.alloc (.cells #[.slice C nc cc, .slice S ns cs, .int .i64 lp] 28) = wA at *
  obtain ⟨d0, d1, d2, dlt⟩ := hd
  have hs0 : SeenW (wA.alloc (.map #[] 0)) wA.heap.size [] := ⟨_, World.ownsMap_made _ _ _ _, DSeen.empty⟩
  have hbB := below_step hb0 (below_alloc wA (.map #[] 0))
  have c0 := ((below_alloc wA (.map #[] 0)).cell (p := ⟨w.heap.size, 0, none⟩) dlt).trans d0
  obtain ⟨gM, hgM⟩ : ∃ g, wA.heap.size = g := ⟨_, rfl⟩
  have hwg : w.heap.size < gM := by omega
  rw [hgM] at hs0
  have HG := Lib.hid hgM
  clear hsz hgM dlt d0 d1 d2 hb0
  go_upto_region 3 with fail
  rw [HG.out]
  generalize wA.alloc (.map #[] 0) = wB at *
  clear hmm HG
  go_wp2
  go_loopw [6, 8, 16] (fun _ _ i wr => ∃ k : Nat, k ≤ nc ∧ i = .int .i64 k ∧ Below w.heap.size w wr ∧ Rows0 vss k ∧ okV ns (vss.take k).flatten ∧ SeenW wr gM (vss.take k).flatten) (fun _ _ i _ => nc - (intOf i).toNat)
  case atStart => exact ⟨0, by omega, rfl, hbB, fun j hj => by omega, ⟨by simp, by simp⟩, hs0⟩
  case round =>
    obtain ⟨k, hk, rfl, hbr, hr0, hok, hsw⟩ := hrel
    have hk0 : (0 : Int) ≤ (k : Int) := Int.natCast_nonneg _
    by_cases hlt : k < nc
    · obtain ⟨bC, oC, hCe, hbC, hcc⟩ := HC.out.2 (by omega)
      subst hCe
      obtain ⟨A1, n1, c1, hcel0, hrv⟩ := hcc k hlt
      have hcel := (hbr.cell (p := ⟨bC, oC + k, none⟩) hbC).trans hcel0
      have hln := hrv.1
      have hk1 : (k : Int) < (nc : Int) := by omega
      have hkl : k < vss.length := by rw [HCL.out]; exact hlt
      by_cases hn0 : n1 = 0
      · have hF : visB vss ns = false := visB_empty hkl (List.length_eq_zero_iff.1 (by omega))
        have HF := Lib.hid hF
        subst hn0
        clear hcc hrv hln hF hr0 hok hsw
        go_wp2
        go_ret
        exact ⟨ret_bool HF.out.symm, hbr⟩
      · have hn1 : (0 : Int) < (n1 : Int) := by omega
        have hn1' : ((n1 : Int) == 0) = false := by simp only [beq_eq_false_iff_ne, ne_eq]; omega
        have hfs := flat_take_succ hkl
        have hlen1 : (vss.take (k + 1)).flatten.length ≤ 1000000 := by
          have e3 : vss.flatten = (vss.take (k + 1)).flatten ++ (vss.drop (k + 1)).flatten := by rw [← List.flatten_append, List.take_append_drop]
          have := HFL.out
          rw [e3, List.length_append] at this
          omega
        have hr1 : Rows0 vss (k + 1) := fun j hj => by
          rcases Nat.lt_or_ge j k with h | h
          · exact hr0 j h
          · obtain rfl : j = k := by omega
            intro e; rw [e] at hln; simp at hln; omega
        have hsp := fun q hq => flat_split (q := q) hkl hq
        obtain ⟨l, hl⟩ : ∃ l, vss.getD k [] = l := ⟨_, rfl⟩
        rw [hl] at hrv hln hfs
        simp only [hl] at hsp
        rw [hfs, List.length_append, hln] at hlen1
        have hn1000 : (n1 : Int) ≤ 1000000 := by omega
        obtain ⟨F, hF⟩ : ∃ F, (vss.take k).flatten = F := ⟨_, rfl⟩
        rw [hF] at hok hsw hfs hlen1
        simp only [hF] at hsp
        have hok0 : okV ns (F ++ l.take 0) := by simpa using hok
        have hsw0 : SeenW wr gM (F ++ l.take 0) := by simpa using hsw
        have HFS := Lib.hid hfs
        have HSP := Lib.hid hsp
        have HLN := Lib.hid hln
        have HRV := Lib.hid hrv
        have HR1 := Lib.hid hr1
        obtain ⟨wC, hwC⟩ : ∃ wC : World, wC = wr := ⟨_, rfl⟩
        subst hwC
        clear hcc hrv hln hl hfs hsp hr0 hr1 hok hsw hF hn0
        go_wp2
        go_loopw [8, 25] (fun _ i wr => ∃ q : Nat, q ≤ n1 ∧ i = .int .i64 q ∧ Below w.heap.size w wr ∧ okV ns (F ++ l.take q) ∧ SeenW wr gM (F ++ l.take q)) (fun _ i _ => n1 - (intOf i).toNat)
        case atStart => exact ⟨0, by omega, rfl, hbr, hok0, hsw0⟩
        case round =>
          obtain ⟨q, hq, rfl, hbq, hokq, hswq⟩ := hrel
          have hq0 : (0 : Int) ≤ (q : Int) := Int.natCast_nonneg _
          by_cases hql : q < n1
          · obtain ⟨b1, o1, hAe, hb1, hcv⟩ := (HRV.out.keep hbq).2 (by omega)
            subst hAe
            obtain ⟨z0, z1⟩ := hcv q hql
            obtain ⟨R, hR⟩ := HSP.out q (by rw [HLN.out]; exact hql)
            have htk := take_succ_getD l v0 q (by rw [HLN.out]; exact hql)
            have htl : (l.take q).length = q := by rw [List.length_take, HLN.out]; omega
            obtain ⟨v, hv⟩ : ∃ v, l.getD q v0 = v := ⟨_, rfl⟩
            rw [hv] at z0 z1 hR htk
            obtain ⟨vc, vo⟩ := v
            simp only at z0 z1
            have hq1 : (q : Int) < (n1 : Int) := by omega
            obtain ⟨D, hown, hDS⟩ := hswq
            have hownX := hown.alloc (.cells #[.int .i64 vc, .bool vo] 51)
            have hbX := below_step hbq (below_alloc wr (.cells #[.int .i64 vc, .bool vo] 51))
            have y0 : (wr.alloc (.cells #[.int .i64 vc, .bool vo] 51)).cell? ⟨wr.heap.size, 0, none⟩ = some (.int .i64 vc) := by rw [World.cell?_alloc_at _ _ _ _ rfl]; rfl
            have y1 : (wr.alloc (.cells #[.int .i64 vc, .bool vo] 51)).cell? ⟨wr.heap.size, 1, none⟩ = some (.bool vo) := by rw [World.cell?_alloc_at _ _ _ _ rfl]; rfl
            have HR := Lib.hid hR
            have HTK := Lib.hid htk
            have HOK := Lib.hid hokq
            have HDS := Lib.hid hDS
            have HOW := Lib.hid hownX
            clear hcv hv hR htk hokq hDS hown hownX
            go_upto_region 11 with fail
            generalize wr.alloc (.cells #[.int .i64 vc, .bool vo] 51) = wX at *
            obtain ⟨gV, hgV⟩ : ∃ g, wr.heap.size = g := ⟨_, rfl⟩
            rw [hgV] at y0 y1 ⊢
            clear z0 z1 hgV
            by_cases h1 : 0 ≤ vc
            · by_cases h2 : vc < (ns : Int)
              · have hwf : (Lit.int .i64 vc).wf = true := WalkArith.wf_i64 (by omega)
                have hlk := look_bool HOW.out Tryz.underlying103 HDS.out (v := (vc, vo)) hwf
                simp only [visV] at hlk
                by_cases h3 : ((vc, vo) : Vis) ∈ F ++ l.take q
                · have hF : visB vss ns = false := visB_bad HR.out (fun h => h.1 h3)
                  have HF := Lib.hid hF
                  rw [decide_eq_true h3] at hlk
                  clear hF h3
                  go_wp2
                  go_ret
                  exact ⟨ret_bool HF.out.symm, hbX⟩
                · rw [decide_eq_false h3] at hlk
                  have hok2 : okV ns (F ++ l.take (q + 1)) := by
                    rw [HTK.out, ← List.append_assoc]; exact okV_snoc.2 ⟨HOK.out, h3, h1, h2⟩
                  have H3 := Lib.hid h3
                  have HOK2 := Lib.hid hok2
                  have hlt0 := HOW.out.lt
                  have hq2 : (F ++ l.take q).length < 1000000 := by rw [List.length_append, htl]; omega
                  have HW := Lib.hid hwf
                  clear h3 hok2 hwf htl
                  go_wp2_with (at_mapUpdate; refine wpList_mapUpdate_own _ rfl _ _ _ 103 rfl 51 4 lawVis Tryz.underlying103 _ gM _ _ rfl HOW.out (by unfold maxLen; omega) _ _ _ rfl rfl (keyOf_vis (vc, vo) HW.out) _ [] (plainElem_bool Tryz.underlying4 true) ?_; intro w2 hown2 hg2)
                  have hb3 := grown_below hbX hg2 (Nat.le_of_lt (Nat.lt_trans hwg hlt0)) (Nat.le_of_lt hwg)
                  have hd2 := HDS.out.put (HOW.out.tidy lawVis) HW.out H3.out
                  have hsw2 : SeenW w2 gM (F ++ l.take (q + 1)) := by
                    rw [HTK.out, ← List.append_assoc]
                    unfold SeenW
                    rw [List.length_append]
                    exact ⟨_, hown2, hd2⟩
                  have HSW2 := Lib.hid hsw2
                  clear hsw2 hown2 hg2 hlk hd2
                  go_roundw
                  case rel => exact ⟨q + 1, by omega, by go_num, hb3, HOK2.out, HSW2.out⟩
                  case measure => simp [intOf]; omega
              · have hF : visB vss ns = false := visB_bad HR.out (fun h => h2 h.2.2)
                have HF := Lib.hid hF
                have h2' : (ns : Int) ≤ vc := by omega
                clear hF h2
                go_wp2
                go_ret
                exact ⟨ret_bool HF.out.symm, hbX⟩
            · have hF : visB vss ns = false := visB_bad HR.out (fun h => h1 h.2.1)
              have HF := Lib.hid hF
              have h1' : vc < 0 := by omega
              clear hF h1
              go_wp2
              go_ret
              exact ⟨ret_bool HF.out.symm, hbX⟩
          · obtain rfl : n1 = q := by omega
            have htl : l.take n1 = l := by rw [← HLN.out, List.take_length]
            rw [htl, ← HFS.out] at hokq hswq
            have HOK := Lib.hid hokq
            have HSW := Lib.hid hswq
            clear hokq hswq hql hq htl
            go_wp2
            go_roundw
            case rel => exact ⟨k + 1, by omega, by go_num, hbq, HR1.out, HOK.out, HSW.out⟩
            case measure => simp [intOf]; omega
    · obtain rfl : k = nc := by omega
      have htk : vss.take k = vss := by rw [← HCL.out, List.take_length]
      rw [htk] at hok hsw
      have hF : visB vss ns = decide (vss.flatten.length = 2 * ns) := visB_end (fun j hj => hr0 j (by rw [← HCL.out]; exact hj)) hok
      have hfl := HFL.out
      obtain ⟨N, hNe⟩ : ∃ N, vss.flatten.length = N := ⟨_, rfl⟩
      rw [hNe] at hF hfl
      have HF := Lib.hid hF
      obtain ⟨D, hown, hDS⟩ := hsw
      have hsz := hDS.2.2
      rw [hNe] at hsz hown
      clear hNe
      have HOW := Lib.hid hown
      clear hlt hk hF hok hr0 htk hown hDS
      by_cases hN : N = 2 * ns
      · have hN1 : (N : Int) = 2 * (ns : Int) := by omega
        have HN := Lib.hid hN
        clear hN
        go_wp2_with (at_len; refine wpList_len_own _ rfl _ 103 rfl 51 4 Tryz.underlying103 _ gM _ _ rfl HOW.out ?_; rw [hsz])
        go_ret
        exact ⟨ret_bool (by rw [HF.out, decide_eq_true HN.out]), hbr⟩
      · have hN1 : ((N : Int) == 2 * (ns : Int)) = false := by simp only [beq_eq_false_iff_ne, ne_eq]; omega
        have HN := Lib.hid hN
        clear hN
        go_wp2_with (at_len; refine wpList_len_own _ rfl _ 103 rfl 51 4 Tryz.underlying103 _ gM _ _ rfl HOW.out ?_; rw [hsz])
        go_ret
        exact ⟨ret_bool (by rw [HF.out, decide_eq_false HN.out]), hbr⟩

end Go.Proofs.YtdacjnmfmhkpiaaGreatDoor

/- Walk: countFaces. -/
namespace Go.Proofs.YtdacjnmfmhkpiaaGreatDoor
open Go.RowKit

/-- How many numbers below k are the least of their cycle. -/
def cFst (f : Nat → Nat) (N k : Nat) : Nat := ((List.range k).filter (fun h => fst f N h)).length
theorem cFst_succ (f : Nat → Nat) (N k : Nat) : cFst f N (k + 1) = cFst f N k + if fst f N k = true then 1 else 0 := by
  unfold cFst
  rw [List.range_succ, List.filter_append]
  by_cases h : fst f N k = true <;> simp [h]
theorem cFst_le (f : Nat → Nat) (N k : Nat) : cFst f N k ≤ k := by
  unfold cFst
  have := List.length_filter_le (fun h => fst f N h) (List.range k)
  simpa using this
/-- Block g tells which half-edges are on the cycle of a number below k. -/
def SeenB (f : Nat → Nat) (nm k : Nat) (g : Nat) (w : World) : Prop := ∃ S : Nat → Bool, Arr w g 4 nm (bv S) ∧ ∀ x, x < nm → (S x = true ↔ ∃ h, h < k ∧ Orb f h x)
def SeenB2 (f : Nat → Nat) (nm k i : Nat) (g : Nat) (w : World) : Prop := ∃ S : Nat → Bool, Arr w g 4 nm (bv S) ∧ ∀ x, x < nm → (S x = true ↔ (∃ h, h < k ∧ Orb f h x) ∨ ∃ j, j < i ∧ it f j k = x)
theorem SeenB2.full {f : Nat → Nat} {nm k g : Nat} {w : World} (p : Perm f nm) (hk : k < nm) (h : SeenB2 f nm k (per f nm k) g w) : SeenB f nm (k + 1) g w := by
  obtain ⟨S, hA, hS⟩ := h
  refine ⟨S, hA, fun x hx => (hS x hx).trans ⟨?_, ?_⟩⟩
  · rintro (⟨h, h1, h2⟩ | ⟨j, _, e⟩)
    · exact ⟨h, by omega, h2⟩
    · exact ⟨k, by omega, j, e⟩
  · rintro ⟨h, h1, h2⟩
    by_cases e : h = k
    · subst e; exact .inr (p.orb_lt hk h2)
    · exact .inl ⟨h, by omega, h2⟩
theorem SeenB.skip {f : Nat → Nat} {nm k g : Nat} {w : World} {S : Nat → Bool} (hk : k < nm) (hA : Arr w g 4 nm (bv S)) (hS : ∀ x, x < nm → (S x = true ↔ ∃ h, h < k ∧ Orb f h x)) (hold : S k = true) : SeenB f nm (k + 1) g w := by
  refine ⟨S, hA, fun x hx => (hS x hx).trans ⟨?_, ?_⟩⟩
  · rintro ⟨h, h1, h2⟩; exact ⟨h, by omega, h2⟩
  · rintro ⟨h, h1, h2⟩
    by_cases e : h = k
    · subst e
      obtain ⟨h', h3, h4⟩ := (hS h hk).1 hold
      exact ⟨h', h3, h4.trans h2⟩
    · exact ⟨h, by omega, h2⟩

theorem turnf_any (x : Nat) (hx : x ≤ 1000000) (W : World) : Calls Tryz.prog 94 #[.int .i64 (x : Nat), .int .i64 (-1)] W fun e w' => e = .returned (.int .i64 (trn x 3 : Nat)) ∧ W = w' := by
  have h := turn_any (x : Nat) (-1) W (by omega) (by omega) (by omega) (by omega)
  rw [turnI_face] at h
  exact h

set_option maxHeartbeats 3200000 in
set_option maxRecDepth 100000 in
theorem cfaces_any (A : Option Addr) (nm c : Nat) (mate : List Int) (m : Nat → Nat) (w : World) (hm : RI w A nm mate) (hmm : Mates mate nm m) (hp : Perm (ff m) nm) (hnm : nm ≤ 256) :
    Calls Tryz.prog 77 #[.slice A nm c] w fun e w' => e = .returned (.int .i64 (cFst (ff m) nm nm : Nat)) ∧ Below w.heap.size w w' := by
  have HP := Lib.hid hp
  have HMM := Lib.hid hmm
  have hmk := fun W => make_one (P := Tryz.prog) Tryz.underlying124 Tryz.infoBool rfl nm (by omega) (by omega) W
  have ha5 : Arr (w.alloc (.cells (cellsN nm fun _ => .bool false) 4)) w.heap.size 4 nm (bv fun _ => false) := Arr.new w nm 4 _
  have hb0 := below_alloc w (.cells (cellsN nm fun _ => .bool false) 4)
  clear hp hmm
  go_enter Tryz.func77, Tryz.ntmps77
  go_upto_region 3 with fail
  have hst : SeenB (ff m) nm 0 w.heap.size (w.alloc (.cells (cellsN nm fun _ => .bool false) 4)) := ⟨_, ha5, fun x _ => ⟨fun h => Bool.noConfusion h, fun ⟨_, h, _⟩ => absurd h (by omega)⟩⟩
  generalize w.alloc (.cells (cellsN nm fun _ => .bool false) 4) = wA at *
  clear ha5 hmk
  go_wp2
  go_loopw [3, 5, 6, 12] (fun cv _ _ i wr => ∃ k : Nat, k ≤ nm ∧ i = .int .i64 k ∧ cv = .int .i64 (cFst (ff m) nm k : Nat) ∧ Below w.heap.size w wr ∧ SeenB (ff m) nm k w.heap.size wr) (fun _ _ _ i _ => nm - (intOf i).toNat)
  case atStart => exact ⟨0, by omega, rfl, rfl, hb0, hst⟩
  case round =>
    obtain ⟨k, hk, rfl, rfl, hbr, hsr⟩ := hrel
    by_cases hlt : k < nm
    · obtain ⟨S, hA, hS⟩ := hsr
      have hk0 : (0 : Int) ≤ (k : Int) := Int.natCast_nonneg _
      have hk1 : (k : Int) < (nm : Int) := by omega
      have hcS : wr.cell? ⟨w.heap.size, k, none⟩ = some (.bool (S k)) := hA.cell k hlt
      have hcs := cFst_succ (ff m) nm k
      have hcle := cFst_le (ff m) nm k
      rw [fst_of_seen HP.out hlt hS] at hcs
      cases hSk : S k with
      | true =>
        rw [hSk] at hcs
        have hcs' : cFst (ff m) nm (k + 1) = cFst (ff m) nm k := by rw [hcs]; simp
        have HCS := Lib.hid hcs'
        have hsn := SeenB.skip hlt hA hS hSk
        rw [hSk] at hcS
        clear hS hA hSk hcs hcs'
        go_wp2
        refine wp_loop_rounds 1 ?_
        rw [rounds_succ]
        go_wp2
        go_roundw
        case rel => exact ⟨k + 1, by omega, by go_num, by rw [HCS.out], hbr, hsn⟩
        case measure => simp [intOf]; omega
      | false =>
        rw [hSk] at hcs
        have hcs' : cFst (ff m) nm (k + 1) = cFst (ff m) nm k + 1 := by rw [hcs]; simp
        have HCS := Lib.hid hcs'
        have hSk2 : ∀ i, i < per (ff m) nm k → ¬ ∃ h, h < k ∧ Orb (ff m) h (it (ff m) i k) := by
          rintro i _ ⟨h, h1, h2⟩
          have : S k = true := (hS k hlt).2 ⟨h, h1, h2.trans (HP.out.orb_symm hlt ⟨i, rfl⟩)⟩
          rw [hSk] at this; cases this
        have hs2 : SeenB2 (ff m) nm k 0 w.heap.size wr :=
          ⟨S, hA, fun x hx => (hS x hx).trans ⟨.inl, fun h => h.elim id fun ⟨j, hj, _⟩ => absurd hj (by omega)⟩⟩
        rw [hSk] at hcS
        have HS2 := Lib.hid hSk2
        have HZ := Lib.hid hs2
        clear hSk2 hs2 hS hA hSk hcs hcs'
        generalize cFst (ff m) nm k = u at *
        have hu0 : (0 : Int) ≤ (u : Int) := Int.natCast_nonneg _
        obtain ⟨wB, hwB⟩ : ∃ wB : World, wB = wr := ⟨_, rfl⟩
        subst hwB
        go_wp2
        go_loopg [6] (per (ff m) nm k) (fun n g wr => ∃ i : Nat, n + i = per (ff m) nm k ∧ g = .int .i64 (it (ff m) i k : Nat) ∧ Below w.heap.size w wr ∧ SeenB2 (ff m) nm k i w.heap.size wr)
        case atStart => exact ⟨0, by omega, rfl, hbr, HZ.out⟩
        case round =>
          obtain ⟨i, hi, rfl, hbi, hsi⟩ := hrel
          have hgl := HP.out.it_lt hlt i
          by_cases hil : i < per (ff m) nm k
          · obtain ⟨S, hA, hS⟩ := hsi
            have hSg : S (it (ff m) i k) = false := by
              cases e : S (it (ff m) i k) with
              | false => rfl
              | true =>
                rcases (hS _ hgl).1 e with h | ⟨j, hj, e'⟩
                · exact absurd h (HS2.out i hil)
                · exact absurd e' (HP.out.it_ne hlt hj hil)
            have hcS2 : wr.cell? ⟨w.heap.size, it (ff m) i k, none⟩ = some (.bool false) := by rw [← hSg]; exact hA.cell _ hgl
            have hfS := hA.frozen (it (ff m) i k)
            have hs' : SeenB2 (ff m) nm k (i + 1) w.heap.size (wr.setCell ⟨w.heap.size, it (ff m) i k, none⟩ (.bool true)) := by
              refine ⟨_, hA.setb _ _, fun x hx => ?_⟩
              by_cases e : x = it (ff m) i k
              · subst e; simp only [if_pos]
                exact ⟨fun _ => .inr ⟨i, by omega, rfl⟩, fun _ => trivial⟩
              · simp only [if_neg e]
                refine (hS x hx).trans ⟨fun h => h.imp id fun ⟨j, hj, e'⟩ => ⟨j, by omega, e'⟩, fun h => h.imp id fun ⟨j, hj, e'⟩ => ⟨j, ?_, e'⟩⟩
                by_cases ej : j = i
                · subst ej; exact absurd e'.symm e
                · omega
            have hb' : Below w.heap.size w (wr.setCell ⟨w.heap.size, it (ff m) i k, none⟩ (.bool true)) := below_set hbi (Nat.le_refl _) _
            obtain ⟨ba, oa, hAe, hba, hca⟩ := (hm.keep hb').2 (by omega)
            subst hAe
            obtain ⟨hm1, hm2⟩ := HMM.out _ hgl
            have hcm : (wr.setCell ⟨w.heap.size, it (ff m) i k, none⟩ (.bool true)).cell? ⟨ba, oa + it (ff m) i k, none⟩ = some (.int .i64 (m (it (ff m) i k) : Nat)) := by rw [hca _ hgl, hm1]
            obtain ⟨y, hy⟩ : ∃ y, it (ff m) (i + 1) k = y := ⟨_, rfl⟩
            have HY := Lib.hid hy
            have HX : ∀ W, Hid (Calls Tryz.prog 94 #[.int .i64 (m (it (ff m) i k) : Nat), .int .i64 (-1)] W fun e w' => e = .returned (.int .i64 (it (ff m) (i + 1) k : Nat)) ∧ W = w') := fun W => turnf_any _ (by omega) W
            have HS' := Lib.hid hs'
            have HB' := Lib.hid hb'
            have HI := Lib.hid hi
            rw [hy] at HX
            clear hs' hb' hS hA hSg hca hm1 hm2 hy hi
            generalize m (it (ff m) i k) = mx at *
            generalize it (ff m) i k = x at *
            have hx0 : (0 : Int) ≤ (x : Int) := Int.natCast_nonneg _
            have hx1 : (x : Int) < (nm : Int) := by omega
            go_wp2_with (go_at_call 94; ((with_reducible refine (HX _).out.mono ?_); rintro e w2 ⟨rfl, rfl⟩))
            go_roundg (gk - 1)
            case measure => have := HI.out; omega
            case rel => exact ⟨i + 1, by have := HI.out; omega, by rw [HY.out], HB'.out, HS'.out⟩
          · have hip : i = per (ff m) nm k := by omega
            have hret : it (ff m) i k = k := by rw [hip]; exact (HP.out.per_spec hlt).1
            have hfull := SeenB2.full HP.out hlt (by rw [← hip]; exact hsi)
            obtain ⟨S, hA, hS⟩ := hsi
            have hSk : S k = true := (hS k hlt).2 (.inr ⟨0, by rw [hip]; exact per_pos _ _ _, rfl⟩)
            have hcS3 : wr.cell? ⟨w.heap.size, k, none⟩ = some (.bool true) := by rw [← hSk]; exact hA.cell _ hlt
            rw [hret]
            have HFu := Lib.hid hfull
            clear hfull hS hA hSk hret hi hil hip hgl HS2
            go_wp2
            go_roundw
            case rel => exact ⟨k + 1, by omega, by go_num, by rw [HCS.out]; go_num, hbi, HFu.out⟩
            case measure => simp [intOf]; omega
    · obtain rfl : k = nm := by omega
      clear hsr hlt hk
      go_wp2
      go_ret
      exact ⟨rfl, hbr⟩

end Go.Proofs.YtdacjnmfmhkpiaaGreatDoor
