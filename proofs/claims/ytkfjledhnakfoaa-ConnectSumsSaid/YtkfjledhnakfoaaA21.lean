import Derived.Test.YtkfjledhnakfoaaA20
import Derived.Test.YtkfjledhnakfoaaA16
/- Walk: Split. -/
namespace Go.Proofs.Ytkfjledhnakfoaa
open Go.RowKit

def phiL (m : List Int) (n l : Nat) : Nat → Nat := fun i => (memN (labM m) n l).getD i 0
/-- The part of the component with the least crossing l. -/
def partP (s m : List Int) (n l : Nat) : Pl := (ptS s (phiL m n l) (memN (labM m) n l).length, ptM (phiL m n l) (memN (labM m) n l).length (matesOf m) (4 * (memN (labM m) n l).length), 0)
abbrev loopP : Pl := ([], [], 1)
def splitP (s m : List Int) (lp : Int) : List Pl := if validB s m lp = true then (roots (labM m) s.length).map (partP s m s.length) ++ List.replicate lp.toNat loopP else []
abbrev loopD : Dg := ⟨none, 0, none, 0, 1, [], []⟩
theorem replicate_snoc {α : Type} (n : Nat) (x : α) : List.replicate (n + 1) x = List.replicate n x ++ [x] := List.replicate_succ'
def SpPost (w : World) (ps : List Pl) (e : Ending) (w' : World) : Prop := ∃ v ds, e = .returned v ∧ ODs w' w.heap.size v ds ∧ ds.map Dg.pl = ps ∧ Below w.heap.size w w'

set_option maxHeartbeats 12800000 in
set_option maxRecDepth 100000 in
theorem split_any (A B : Option Addr) (ns cs nm cm : Nat) (lp : Int) (s m : List Int) (w : World) (h : DV w A ns B nm s m) (hcap : nm ≤ cm ∧ cm ≤ 9223372036854775807) :
    Calls Try.prog 87 #[dval A ns cs B nm cm lp] w (SpPost w (splitP s m lp)) := by
  have hb0 := below_alloc w (dbox A ns cs B nm cm lp)
  obtain ⟨d0, d1, d2, dlt⟩ := DB.new w A ns cs B nm cm lp
  have H := Lib.hid (h.keep hb0)
  have hls := h.hs.1
  cases hv : validB s m lp with
  | false =>
    have e : splitP s m lp = [] := by unfold splitP; rw [if_neg (by rw [hv]; decide)]
    rw [e]
    have CV := Lib.hid (H.out.valid cs cm lp false hv)
    clear e hv hls h hcap
    go_enter Try.func87, Try.ntmps87
    go_wp2_with (go_at_call 18; ((with_reducible refine CV.out.mono ?_); rintro e w1 ⟨rfl, hb1⟩))
    go_ret
    exact ⟨_, [], rfl, ODs.nil _ _, rfl, below_step hb0 hb1⟩
  | true =>
    obtain ⟨hnm, hns, hM, l0, l1⟩ := cn_data hv h.hs.1 h.hm.1
    have eG : graphM s m lp = graphL (labM m) ns := by unfold graphM; rw [if_pos hv, hls]
    have eS : splitP s m lp = (roots (labM m) ns).map (partP s m ns) ++ List.replicate lp.toNat loopP := by unfold splitP; rw [if_pos hv, hls]
    obtain ⟨L, hL⟩ : ∃ L, (graphL (labM m) ns).length = L := ⟨_, rfl⟩
    have hrl : (roots (labM m) ns).length = L := by rw [← hL, graphL_length]
    have hL64 : L ≤ 64 := by rw [← hrl]; exact Nat.le_trans (roots_length _ _) hns
    have HES := Lib.hid eS
    have HRL := Lib.hid hrl
    have HGL := Lib.hid hL
    have HV := Lib.hid hv
    have HCAP := Lib.hid hcap
    have CV := Lib.hid (H.out.valid cs cm lp true hv)
    have CG : ∀ W, Below (w.alloc (dbox A ns cs B nm cm lp)).heap.size (w.alloc (dbox A ns cs B nm cm lp)) W → Hid (Calls Try.prog 30 #[dval A ns cs B nm cm lp] W (CycsPost W (graphL (labM m) ns))) := fun W hW => Lib.hid (by rw [← eG]; exact graph_any A B ns cs nm cm lp s m W (H.out.keep hW))
    have HD : Hid (∀ W, Below (w.alloc (dbox A ns cs B nm cm lp)).heap.size (w.alloc (dbox A ns cs B nm cm lp)) W → W.cell? ⟨w.heap.size, 0, none⟩ = some (.slice A ns cs) ∧ W.cell? ⟨w.heap.size, 1, none⟩ = some (.slice B nm cm) ∧ W.cell? ⟨w.heap.size, 2, none⟩ = some (.int .i64 lp)) := Lib.hid fun W hb => ⟨(hb.cell (p := ⟨w.heap.size, 0, none⟩) dlt).trans d0, (hb.cell (p := ⟨w.heap.size, 1, none⟩) dlt).trans d1, (hb.cell (p := ⟨w.heap.size, 2, none⟩) dlt).trans d2⟩
    have hLi : (L : Int) ≤ 64 := by omega
    have HNS := Lib.hid hns
    have HB0 := Lib.hid hb0
    obtain ⟨ln, hln⟩ : ∃ ln : Nat, lp = (ln : Int) := ⟨lp.toNat, by omega⟩
    have hlt : lp.toNat = ln := by omega
    have HLN := Lib.hid hlt
    have hln64 : ln ≤ 64 := by omega
    have hlni : (ln : Int) ≤ 64 := by omega
    subst hln
    clear hv hls hnm hM l0 l1 eG eS hL hrl h hcap hns hlt
    go_enter Try.func87, Try.ntmps87
    go_upto_region 5 with (first
      | (go_at_call 18; ((with_reducible refine CV.out.mono ?_); rintro e w1 ⟨rfl, hb1⟩; obtain ⟨x0, x1, x2⟩ := HD.out w1 hb1))
      | (go_at_call 30; ((with_reducible refine (CG _ hb1).out.mono ?_); rintro e w2 ⟨v, rfl, oG, hb2'⟩; have hb2 := below_step hb1 hb2'; obtain ⟨GA, Gc, rfl⟩ := oG.form)))
    rw [HGL.out]
    have HOG := Lib.hid oG
    have HB2 := Lib.hid hb2
    have HW1 := Lib.hid hb1.size
    clear x0 x1 x2 hb1 hb2 hb2' oG CG d0 d1 d2
    generalize w.alloc (dbox A ns cs B nm cm (ln : Int)) = w0 at H HD HB2 HB0 HW1 dlt
    go_loopw [3, 5, 12] (fun v _ i wr => ∃ (k : Nat) (ds : List Dg), k ≤ L ∧ i = .int .i64 k ∧ Below w2.heap.size w2 wr ∧ ODs wr w2.heap.size v ds ∧ ds.map Dg.pl = ((roots (labM m) ns).take k).map (partP s m ns)) (fun _ _ i _ => L - (intOf i).toNat)
    case atStart => exact ⟨0, [], by omega, rfl, Below.refl _ _, ODs.nil _ _, rfl⟩
    case round =>
      obtain ⟨k, ds, hk, rfl, hbr, hO, hP⟩ := hrel
      have hk0 : (0 : Int) ≤ (k : Int) := Int.natCast_nonneg _
      have hdl : ds.length = k := by have := congrArg List.length hP; rw [List.length_map, List.length_map, List.length_take, HRL.out] at this; omega
      by_cases hkn : k < L
      · have hk1 : (k : Int) < (L : Int) := by omega
        obtain ⟨_, gA, A', n', c', rfl, _, _, hcel, oR⟩ := HOG.out.el k (by rw [HGL.out]; exact hkn)
        obtain ⟨hkr, hg⟩ := graphL_get (labM m) ns (a := k) (by rw [HGL.out]; exact hkn)
        rw [hg] at oR
        have hc2 := (hbr.cell (p := ⟨gA, k, none⟩) (World.block_lt_of_cell? w2 _ hcel)).trans hcel
        obtain ⟨x0, x1, x2⟩ := HD.out wr (below_step HB2.out hbr)
        obtain ⟨l, hl⟩ : ∃ l, (roots (labM m) ns)[k] = l := ⟨_, rfl⟩
        rw [hl] at oR
        have hnl : n' = (memN (labM m) ns l).length := by rw [oR.ri.1.symm, memb_memN, List.length_map]
        have hE := memN_enum (labM m) ns l
        have hK : (memN (labM m) ns l).length ≤ 64 := by unfold memN; exact Nat.le_trans (List.length_filter_le _ _) (by have := HNS.out; simp; omega)
        have CP0 := part_any A B A' ns cs nm cm (memN (labM m) ns l).length c' (ln : Int) s m (memb (labM m) ns l) (phiL m ns l) wr (H.out.keep (below_step HB2.out hbr)) HV.out HCAP.out (by rw [← hnl]; exact oR.ri.keep hbr) hK (fun i hi => ⟨by rw [memb_memN]; unfold phiL; simp [List.getD, hi], hE.lt i hi⟩)
        obtain ⟨K, hKe⟩ : ∃ K, (memN (labM m) ns l).length = K := ⟨_, rfl⟩
        have HNX : Hid (((roots (labM m) ns).take (k + 1)).map (partP s m ns) = ((roots (labM m) ns).take k).map (partP s m ns) ++ [(ptS s (phiL m ns l) K, ptM (phiL m ns l) K (matesOf m) (4 * K), 0)]) := Lib.hid (by
          rw [List.take_succ_eq_append_getElem hkr, List.map_append, hl]
          simp only [List.map_cons, List.map_nil]
          unfold partP; rw [hKe])
        rw [hKe] at CP0 hnl
        subst hnl
        have CP := Lib.hid CP0
        obtain ⟨ps, hps⟩ : ∃ ps, ptS s (phiL m ns l) n' = ps := ⟨_, rfl⟩
        obtain ⟨pm, hpm⟩ : ∃ pm, ptM (phiL m ns l) n' (matesOf m) (4 * n') = pm := ⟨_, rfl⟩
        have hl1 : ps.length = n' := by rw [← hps, ptS_len]
        have hl2 : pm.length = 4 * n' := by rw [← hpm, ptM_len]
        rw [hps, hpm] at CP HNX
        have HO := Lib.hid hO
        have HBR := Lib.hid hbr
        have HP := Lib.hid hP
        have HLL := Lib.hid (And.intro hl1 hl2)
        have hdl2 : ds.length + 1 ≤ 1000000 := by omega
        clear oR hcel hg hE hK CP0 hKe hps hpm hO hbr hP hl hl1 hl2 hkr
        go_wp2_with (first
          | (go_at_call 117; ((with_reducible refine CP.out.mono ?_); rintro e w3 ⟨A3, c3, B3, d3, rfl, oS, oM, hb3⟩))
          | (at_builtin
             refine wpList_append_dgs rfl (.tmp 16) (.tmp 20) rfl w2.heap.size _ ds rfl ((HO.out.keep hb3).keep (below_alloc _ _)) w3.heap.size 1 1 [⟨A3, c3, B3, d3, 0, ps, pm⟩] rfl rfl ?c1 ?c2 hdl2 ?c3 ?_
             case c1 =>
               intro j u hj
               rw [World.cell?_alloc_at _ _ _ _ rfl]
               obtain ⟨e1, e2⟩ := HLL.out
               simp only [dgs, Dg.cells, List.flatMap_cons, List.flatMap_nil, List.append_nil, e1, e2] at hj
               rw [← hj]
               simp
             case c2 =>
               intro d hd
               simp only [List.mem_singleton] at hd
               subst hd
               obtain ⟨e1, e2⟩ := HLL.out
               refine ⟨?_, ?_⟩
               · show OI _ 0 (.slice A3 ps.length c3) ps
                 rw [e1]; exact (oS.mono (Nat.zero_le _)).alloc _
               · show OI _ 0 (.slice B3 pm.length d3) pm
                 rw [e2]; exact (oM.mono (Nat.zero_le _)).alloc _
             case c3 => have h1 := HBR.out.size; have h2 := hb3.size; simp; omega
             intro v2 w4 hO2 hg2))
        have hb4 : Below w2.heap.size w2 w4 := (below_step (below_step HBR.out hb3) (below_alloc w3 _)).grown hg2 (by have h1 := HBR.out.size; have h2 := hb3.size; simp; omega) (fun q hq => (World.ownsRow.lt HO.out.1 q hq).1)
        go_roundw
        case rel => exact ⟨k + 1, _, by omega, by go_num, hb4, hO2, by rw [HNX.out, List.map_append, HP.out]; rfl⟩
        case measure => simp [intOf]; omega
      · obtain rfl : L = k := by omega
        obtain ⟨wO, hwO⟩ : ∃ wO : World, wO = wr := ⟨_, rfl⟩
        subst hwO
        obtain ⟨x0, x1, x2⟩ := HD.out wO (below_step HB2.out hbr)
        rw [List.take_of_length_le (by rw [HRL.out]; exact Nat.le_refl _)] at hP
        have HO := Lib.hid hO
        have HBR := Lib.hid hbr
        have HP := Lib.hid hP
        clear hO hbr hP hkn hk
        go_wp2
        go_loopw [3, 25] (fun v i wr => ∃ (j : Nat) (es : List Dg), j ≤ ln ∧ i = .int .i64 j ∧ Below w2.heap.size w2 wr ∧ ODs wr w2.heap.size v es ∧ es.map Dg.pl = (roots (labM m) ns).map (partP s m ns) ++ List.replicate j loopP) (fun _ i _ => ln - (intOf i).toNat)
        case atStart => exact ⟨0, ds, by omega, rfl, HBR.out, HO.out, by rw [HP.out]; simp⟩
        case round =>
          obtain ⟨j, es, hj, rfl, hbj, hOj, hPj⟩ := hrel
          have hj0 : (0 : Int) ≤ (j : Int) := Int.natCast_nonneg _
          by_cases hjn : j < ln
          · have hj1 : (j : Int) < (ln : Int) := by omega
            have hel : es.length + 1 ≤ 1000000 := by have := congrArg List.length hPj; rw [List.length_map, List.length_append, List.length_map, List.length_replicate, HRL.out] at this; omega
            have HOJ := Lib.hid hOj
            have HBJ := Lib.hid hbj
            have HPJ := Lib.hid hPj
            clear hOj hbj hPj
            go_wp2_with (
             (at_builtin
              refine wpList_append_dgs rfl (.tmp 27) (.tmp 29) rfl w2.heap.size _ es rfl (HOJ.out.keep (below_alloc _ _)) wr.heap.size 1 1 [loopD] rfl rfl ?c1 ?c2 hel ?c3 ?_
              case c1 =>
                intro j u hj
                rw [World.cell?_alloc_at _ _ _ _ rfl]
                simp only [dgs, Dg.cells, List.flatMap_cons, List.flatMap_nil, List.append_nil, List.length_nil] at hj
                rw [← hj]
                simp
              case c2 =>
                intro d hd
                simp only [List.mem_singleton] at hd
                subst hd
                exact ⟨OI.nil _ _, OI.nil _ _⟩
              case c3 => have h1 := HBJ.out.size; simp; omega
              intro v2 w4 hO2 hg2))
            have hb4 : Below w2.heap.size w2 w4 := (below_step HBJ.out (below_alloc wr _)).grown hg2 (by have h1 := HBJ.out.size; simp; omega) (fun q hq => (World.ownsRow.lt HOJ.out.1 q hq).1)
            go_roundw
            case rel => exact ⟨j + 1, _, by omega, by go_num, hb4, hO2, by rw [List.map_append, HPJ.out, replicate_snoc, List.append_assoc]; rfl⟩
            case measure => simp [intOf]; omega
          · obtain rfl : ln = j := by omega
            have hbf := below_step HB0.out (below_step HB2.out hbj)
            have HOJ := Lib.hid (hOj.mono (Nat.le_trans HB0.out.size HB2.out.size))
            have HPJ := Lib.hid hPj
            clear hOj hbj hPj
            go_wp2
            go_ret
            exact ⟨_, es, rfl, HOJ.out, by rw [HPJ.out, HES.out, HLN.out], hbf⟩

end Go.Proofs.Ytkfjledhnakfoaa

/- Plain: the prime factors as a function. -/
namespace Go.Proofs.Ytkfjledhnakfoaa
open Go.RowKit

/-- The parts at the half-edges x and y, when their edges have exchanged their ends. -/
def cutP (s m : List Int) (n x y h : Nat) : Pl := (ptS s (ptPhi (exL m x y) n (h / 4)) (ptLen (exL m x y) n (h / 4)), ptM (ptPhi (exL m x y) n (h / 4)) (ptLen (exL m x y) n (h / 4)) (matesOf (exL m x y)) (4 * ptLen (exL m x y) n (h / 4)), 0)
/-- The prime factors, in at most f steps. -/
def facF : Nat → Pl → Option (List Pl)
  | 0, _ => none
  | f + 1, (s, m, lp) =>
    if validB s m lp = true then
      match cutsM s m lp with
      | [] => some [(s, m, lp)]
      | (x, y) :: _ =>
        if validB s (exL m x y) lp = true then
          match facF f (cutP s m s.length x y x), facF f (cutP s m s.length x y y) with
          | some l1, some l2 => if l1.length + l2.length ≤ 1000 then some (l1 ++ l2) else none
          | _, _ => none
        else none
    else none
theorem facF_cases {f : Nat} {s m : List Int} {lp : Int} {l : List Pl} (h : facF (f + 1) (s, m, lp) = some l) : validB s m lp = true ∧
    ((cutsM s m lp = [] ∧ l = [(s, m, lp)]) ∨ ∃ x y r l1 l2, cutsM s m lp = (x, y) :: r ∧ validB s (exL m x y) lp = true ∧ facF f (cutP s m s.length x y x) = some l1 ∧ facF f (cutP s m s.length x y y) = some l2 ∧ l1.length + l2.length ≤ 1000 ∧ l = l1 ++ l2) := by
  unfold facF at h
  by_cases hv : validB s m lp = true
  · rw [if_pos hv] at h
    refine ⟨hv, ?_⟩
    cases hc : cutsM s m lp with
    | nil => rw [hc] at h; simp only [Option.some.injEq] at h; exact .inl ⟨rfl, h.symm⟩
    | cons p r =>
      obtain ⟨x, y⟩ := p
      rw [hc] at h
      simp only at h
      by_cases he : validB s (exL m x y) lp = true
      · rw [if_pos he] at h
        cases h1 : facF f (cutP s m s.length x y x) with
        | none => rw [h1] at h; simp at h
        | some l1 =>
          cases h2 : facF f (cutP s m s.length x y y) with
          | none => rw [h1, h2] at h; simp at h
          | some l2 =>
            rw [h1, h2] at h
            simp only at h
            by_cases hl : l1.length + l2.length ≤ 1000
            · rw [if_pos hl] at h
              injection h with h
              exact .inr ⟨x, y, r, l1, l2, rfl, he, h1, h2, hl, h.symm⟩
            · rw [if_neg hl] at h; simp at h
      · rw [if_neg he] at h; simp at h
  · rw [if_neg hv] at h; simp at h
theorem cutRow_mem {F M : Nat → Nat} {x : Nat} {ys : List Nat} {p : Nat × Nat} (h : p ∈ cutRow F M x ys) : p.1 = x ∧ p.2 ∈ ys ∧ F x = F p.2 ∧ F (M x) = F (M p.2) := by
  unfold cutRow at h
  obtain ⟨y, hy, rfl⟩ := List.mem_map.1 h
  rw [List.mem_filter] at hy
  have := of_decide_eq_true hy.2
  exact ⟨rfl, hy.1, this.1, this.2⟩
theorem cutsT_mem {F M : Nat → Nat} {E : List Nat} (hE : E.Pairwise (· < ·)) {p : Nat × Nat} : ∀ k, k ≤ E.length → p ∈ cutsT F M E k → p.1 ∈ E ∧ p.2 ∈ E ∧ p.1 < p.2 ∧ F p.1 = F p.2 ∧ F (M p.1) = F (M p.2) := by
  intro k
  induction k with
  | zero => intro _ h; cases h
  | succ k ih =>
    intro hk h
    unfold cutsT at h
    rcases List.mem_append.1 h with h | h
    · exact ih (by omega) h
    · obtain ⟨h1, h2, h3, h4⟩ := cutRow_mem h
      have hkl : k < E.length := by omega
      have e : E.getD k 0 = E[k] := by simp [List.getD, hkl]
      rw [e] at h1 h3 h4
      obtain ⟨j, hj, hje⟩ := List.mem_iff_getElem.1 h2
      rw [List.getElem_drop] at hje
      rw [List.length_drop] at hj
      refine ⟨by rw [h1]; exact List.getElem_mem hkl, List.mem_of_mem_drop h2, ?_, by rw [h1]; exact h3, by rw [h1]; exact h4⟩
      rw [h1, ← hje]
      exact List.pairwise_iff_getElem.1 hE _ _ hkl (by omega) (by omega)
/-- What a cut is. -/
theorem cuts_mem {s m : List Int} {lp : Int} {x y : Nat} (h : (x, y) ∈ cutsM s m lp) : validB s m lp = true ∧ x < m.length ∧ y < m.length ∧ outB s x = true ∧ outB s y = true ∧ x < y ∧ fcN s m lp x = fcN s m lp y ∧ fcN s m lp (matesOf m x) = fcN s m lp (matesOf m y) := by
  cases hv : validB s m lp with
  | false =>
    unfold cutsM at h
    have e : cutE s m lp = [] := by unfold cutE; rw [if_neg (by rw [hv]; decide)]
    rw [e] at h
    cases h
  | true =>
    have e : cutE s m lp = (List.range m.length).filter (outB s) := by unfold cutE; rw [if_pos hv]
    have hp : (cutE s m lp).Pairwise (· < ·) := by rw [e]; exact List.Pairwise.filter _ List.pairwise_lt_range
    obtain ⟨h1, h2, h3, h4, h5⟩ := cutsT_mem hp _ (Nat.le_refl _) h
    rw [e, List.mem_filter, List.mem_range] at h1 h2
    exact ⟨rfl, h1.1, h2.1, h1.2, h2.2, h3, h4, h5⟩

end Go.Proofs.Ytkfjledhnakfoaa

/- The example of the chapter, computed. -/
namespace Go.Proofs.Ytkfjledhnakfoaa
open Go.RowKit

def k2S : List Int := [1, 1]
def k2M : List Int := [5, 4, 3, 2, 1, 0, 7, 6]
def u2M : List Int := [1, 0, 3, 2, 5, 4, 7, 6]
theorem k2_lab : IsLab (matesOf k2M) 8 2 (fun _ => 0) := by
  refine ⟨fun c hc => ⟨Nat.zero_le _, ?_⟩, fun _ _ => rfl⟩
  have h1 : Conn (matesOf k2M) 8 1 0 := Conn.step 5 (by omega) (Conn.refl 1)
  match c, hc with
  | 0, _ => exact .refl _
  | 1, _ => exact h1
theorem u2_lab : IsLab (matesOf u2M) 8 2 (fun c => c) := ⟨fun c _ => ⟨Nat.le_refl _, .refl _⟩, by decide⟩
theorem k2_sph : sphM k2M 2 = true := by
  show sphB (ufLab (matesOf k2M) 8) (ff (matesOf k2M)) (4 * 2) 2 = true
  rw [sphB_congr (G := fun _ => 0) fun c hc => (ufLab_isLab (matesOf k2M) 8 2).unique k2_lab c hc]
  decide +kernel
theorem u2_sph : sphM u2M 2 = true := by
  show sphB (ufLab (matesOf u2M) 8) (ff (matesOf u2M)) (4 * 2) 2 = true
  rw [sphB_congr (G := fun c => c) fun c hc => (ufLab_isLab (matesOf u2M) 8 2).unique u2_lab c hc]
  decide +kernel
theorem k2_valid : validB k2S k2M 0 = true := by
  unfold validB
  rw [show k2S.length = 2 from rfl, k2_sph]
  decide +kernel
theorem u2_valid : validB k2S u2M 0 = true := by
  unfold validB
  rw [show k2S.length = 2 from rfl, u2_sph]
  decide +kernel
theorem k2_cuts : cutsM k2S k2M 0 = [(1, 5)] := by
  unfold cutsM cutE fcN facesM; rw [if_pos k2_valid, if_pos k2_valid]; decide +kernel
theorem kk_cuts : cutsM kkS kkM 0 = [] := by
  unfold cutsM cutE fcN facesM; rw [if_pos kk_valid, if_pos kk_valid]; decide +kernel
theorem kk_nug : nugM kkS kkM 0 = [0] := by
  unfold nugM fcN facesM; rw [if_pos kk_valid, if_pos kk_valid]; decide +kernel
theorem k2_ex : exL k2M 1 5 = u2M := by decide +kernel
theorem u2_ex : exL (bsM kkM kkM) 1 5 = k2M := by decide +kernel
theorem u2_mem (c : Nat) (hc : c < 2) : memN (labM u2M) 2 (labM u2M c) = [c] := by
  have e : ∀ b, b < 2 → labM u2M b = b := fun b hb => (ufLab_isLab (matesOf u2M) 8 2).unique u2_lab b hb
  unfold memN
  rw [e c hc]
  have h2 : (List.range 2).filter (fun b => labM u2M b == c) = (List.range 2).filter (fun b => b == c) := List.filter_congr fun b hb => by rw [e b (by simpa using hb)]
  rw [h2]
  match c, hc with
  | 0, _ => rfl
  | 1, _ => rfl
theorem k2_part1 : cutP k2S k2M 2 1 5 1 = (kkS, kkM, 0) := by
  unfold cutP ptLen ptPhi
  rw [k2_ex, u2_mem (1 / 4) (by decide)]
  decide +kernel
theorem k2_part2 : cutP k2S k2M 2 1 5 5 = (kkS, kkM, 0) := by
  unfold cutP ptLen ptPhi
  rw [k2_ex, u2_mem (5 / 4) (by decide)]
  decide +kernel
theorem kk_fac (f : Nat) : facF (f + 1) (kkS, kkM, 0) = some [(kkS, kkM, 0)] := by
  unfold facF; rw [if_pos kk_valid, kk_cuts]
theorem k2_fac : facF 2 (k2S, k2M, 0) = some [(kkS, kkM, 0), (kkS, kkM, 0)] := by
  unfold facF
  rw [if_pos k2_valid, k2_cuts]
  simp only
  rw [k2_ex, if_pos u2_valid, show k2S.length = 2 from rfl, k2_part1, k2_part2, kk_fac]
  rfl
theorem k2_split : splitP k2S k2M 0 = [(k2S, k2M, 0)] := by
  have e : ∀ b, b < 2 → labM k2M b = 0 := fun b hb => (ufLab_isLab (matesOf k2M) 8 2).unique k2_lab b hb
  have hr : roots (labM k2M) 2 = [0] := by
    unfold roots
    have h2 : (List.range 2).filter (fun l => labM k2M l == l) = (List.range 2).filter (fun l => (0 : Nat) == l) := List.filter_congr fun b hb => by rw [e b (by simpa using hb)]
    rw [h2]; rfl
  have hm : memN (labM k2M) 2 0 = [0, 1] := by
    unfold memN
    have h2 : (List.range 2).filter (fun b => labM k2M b == 0) = (List.range 2).filter (fun _ => true) := List.filter_congr fun b hb => by rw [e b (by simpa using hb)]; rfl
    rw [h2]; rfl
  unfold splitP
  rw [if_pos k2_valid, show k2S.length = 2 from rfl, hr]
  unfold partP phiL
  simp only [List.map_cons, List.map_nil]
  rw [hm]
  decide +kernel

end Go.Proofs.Ytkfjledhnakfoaa

/- Walk: kink. -/
namespace Go.Proofs.Ytkfjledhnakfoaa
open Go.RowKit

set_option maxHeartbeats 1600000 in
set_option maxRecDepth 100000 in
theorem kink_any (w : World) : Calls Try.prog 54 #[] w fun e w' => ∃ A c B d, e = .returned (dval A 1 c B 4 d 0) ∧ OI w' w.heap.size (.slice A 1 c) kkS ∧ OI w' w.heap.size (.slice B 4 d) kkM ∧ Below w.heap.size w w' := by
  go_enter Try.func54, Try.ntmps54
  go_wp2
  have hs1 : (w.alloc (dbox (some ⟨w.heap.size + 1, 0, none⟩) 1 1 (some ⟨w.heap.size + 1 + 1, 0, none⟩) 4 4 0)).heap.size = w.heap.size + 1 := by simp
  have hs2 : ((w.alloc (dbox (some ⟨w.heap.size + 1, 0, none⟩) 1 1 (some ⟨w.heap.size + 1 + 1, 0, none⟩) 4 4 0)).alloc (.cells #[.int .i64 1] 3)).heap.size = w.heap.size + 1 + 1 := by simp
  have hbx := ((DB.new w (some ⟨w.heap.size + 1, 0, none⟩) 1 1 (some ⟨w.heap.size + 1 + 1, 0, none⟩) 4 4 0).keep (below_alloc _ (.cells #[.int .i64 1] 3))).keep (below_alloc _ (.cells #[.int .i64 1, .int .i64 0, .int .i64 3, .int .i64 2] 3))
  have hb := below_step (below_step (below_alloc w (dbox (some ⟨w.heap.size + 1, 0, none⟩) 1 1 (some ⟨w.heap.size + 1 + 1, 0, none⟩) 4 4 0)) (below_alloc _ (.cells #[.int .i64 1] 3))) (below_alloc _ (.cells #[.int .i64 1, .int .i64 0, .int .i64 3, .int .i64 2] 3))
  have o1 : OI ((w.alloc (dbox (some ⟨w.heap.size + 1, 0, none⟩) 1 1 (some ⟨w.heap.size + 1 + 1, 0, none⟩) 4 4 0)).alloc (.cells #[.int .i64 1] 3)) w.heap.size (.slice (some ⟨w.heap.size + 1, 0, none⟩) 1 1) kkS := by
    have h := World.ownsRow_lit (e := 3) (base := w.heap.size) (size := 1) (w.alloc (dbox (some ⟨w.heap.size + 1, 0, none⟩) 1 1 (some ⟨w.heap.size + 1 + 1, 0, none⟩) 4 4 0)) #[.int .i64 1] 1 (by rw [hs1]; omega) (by simp [maxLen]) rfl
    rw [hs1] at h; exact h
  have o2 : OI (((w.alloc (dbox (some ⟨w.heap.size + 1, 0, none⟩) 1 1 (some ⟨w.heap.size + 1 + 1, 0, none⟩) 4 4 0)).alloc (.cells #[.int .i64 1] 3)).alloc (.cells #[.int .i64 1, .int .i64 0, .int .i64 3, .int .i64 2] 3)) w.heap.size (.slice (some ⟨w.heap.size + 1 + 1, 0, none⟩) 4 4) kkM := by
    have h := World.ownsRow_lit (e := 3) (base := w.heap.size) (size := 1) ((w.alloc (dbox (some ⟨w.heap.size + 1, 0, none⟩) 1 1 (some ⟨w.heap.size + 1 + 1, 0, none⟩) 4 4 0)).alloc (.cells #[.int .i64 1] 3)) #[.int .i64 1, .int .i64 0, .int .i64 3, .int .i64 2] 4 (by rw [hs2]; omega) (by simp [maxLen]) rfl
    rw [hs2] at h; exact h
  unfold dbox at hbx
  obtain ⟨q0, q1, q2, _⟩ := hbx
  exact bodyPost_ret (v := dval (some ⟨w.heap.size + 1, 0, none⟩) 1 1 (some ⟨w.heap.size + 1 + 1, 0, none⟩) 4 4 0) (by simp [results, Try.results54, go_sem, q0, q1, q2]) rfl ⟨_, _, _, _, rfl, o1.alloc _, o2, hb⟩

end Go.Proofs.Ytkfjledhnakfoaa

/- Walk: awake of layer 7. -/
namespace Go.Proofs.Ytkfjledhnakfoaa
open Go.RowKit

theorem OI.lit {w : World} {B n : Nat} (cs : Array Value) (xs : List Int) (hn : xs.length = n) (hcs : cs.toList = ints xs) (hB : B ≤ w.heap.size) (hl : n ≤ 1000) : OI (w.alloc (.cells cs 3)) B (.slice (some ⟨w.heap.size, 0, none⟩) n n) xs := by
  subst hn
  have h := World.ownsRow_lit (e := 3) (base := B) (size := 1) w cs xs.length hB (by unfold maxLen; omega) (by rw [← Array.length_toList, hcs]; simp [ints])
  rw [hcs] at h; exact h

set_option maxHeartbeats 12800000 in
set_option maxRecDepth 100000 in
theorem cnawake_of (hCF : ∀ (A B : Option Addr) (c d : Nat) (W : World), OI W 0 (.slice A 2 c) k2S → OI W 0 (.slice B 8 d) k2M → Calls Try.prog 41 #[dval A 2 c B 8 d 0] W (SpPost W [(kkS, kkM, 0), (kkS, kkM, 0)])) (w : World) : Calls Try.prog 12 #[] w fun e w' => e = .returned (.bool true) ∧ Below w.heap.size w w' := by
  have hpe := pair_eql
  have CK : ∀ W, Hid (Calls Try.prog 54 #[] W fun e w' => ∃ A c B d, e = .returned (dval A 1 c B 4 d 0) ∧ OI w' W.heap.size (.slice A 1 c) kkS ∧ OI w' W.heap.size (.slice B 4 d) kkM ∧ Below W.heap.size W w') := fun W => Lib.hid (kink_any W)
  have CS : Hid (∀ (A B A' B' : Option Addr) (c d c' d' : Nat) (W : World), OI W 0 (.slice A 1 c) kkS → OI W 0 (.slice B 4 d) kkM → OI W 0 (.slice A' 1 c') kkS → OI W 0 (.slice B' 4 d') kkM → Calls Try.prog 34 #[dval A 1 c B 4 d 0, .int .i64 1, dval A' 1 c' B' 4 d' 0, .int .i64 1] W (SmPost W 2 8 0 k2S k2M)) := Lib.hid fun A B A' B' c d c' d' W o1 o2 o3 o4 => by
    have hp : placeV kkS kkM 0 ((1 : Nat) : Int) = true := by unfold placeV outV; rw [kk_valid]; decide +kernel
    have h := sum_out A B A' B' 1 c 4 d 1 c' 4 d' 0 0 1 1 kkS kkM kkS kkM W (dv_of o1.ri o2.ri kk_valid) (dv_of o3.ri o4.ri kk_valid) kk_valid kk_valid (by omega) (by omega) hp hp (by omega) (by omega)
    rw [u2_ex] at h
    exact h
  have CC : Hid (∀ (A B : Option Addr) (c d : Nat) (W : World), OI W 0 (.slice A 2 c) k2S → OI W 0 (.slice B 8 d) k2M → Calls Try.prog 23 #[dval A 2 c B 8 d 0] W (CtPost W [(1, 5)])) := Lib.hid fun A B c d W o1 o2 => by
    have h := cuts_any A B 2 c 8 d 0 k2S k2M W (dv_of o1.ri o2.ri k2_valid)
    rw [k2_cuts] at h; exact h
  have CF := Lib.hid hCF
  clear hCF
  have CN : Hid (∀ (A B : Option Addr) (c d : Nat) (W : World), OI W 0 (.slice A 1 c) kkS → OI W 0 (.slice B 4 d) kkM → Calls Try.prog 20 #[dval A 1 c B 4 d 0] W (NgPost W [0])) := Lib.hid fun A B c d W o1 o2 => by
    have h := nug_any A B 1 c 4 d 0 kkS kkM W (dv_of o1.ri o2.ri kk_valid)
    rw [kk_nug] at h; exact h
  have CE : Hid (∀ (B : Option Addr) (d : Nat) (W : World), OI W 0 (.slice B 8 d) k2M → Calls Try.prog 25 #[.slice B 8 d, .slice (some ⟨W.heap.size, 0, none⟩) 8 8] (W.alloc (.cells #[.int .i64 5, .int .i64 4, .int .i64 3, .int .i64 2, .int .i64 1, .int .i64 0, .int .i64 7, .int .i64 6] 3)) fun e w' => e = .returned (.bool true) ∧ Below (W.alloc (.cells #[.int .i64 5, .int .i64 4, .int .i64 3, .int .i64 2, .int .i64 1, .int .i64 0, .int .i64 7, .int .i64 6] 3)).heap.size (W.alloc (.cells #[.int .i64 5, .int .i64 4, .int .i64 3, .int .i64 2, .int .i64 1, .int .i64 0, .int .i64 7, .int .i64 6] 3)) w') := Lib.hid fun B d W o =>
    sequal_r true B _ 8 d 8 8 k2M k2M _ (o.alloc _).ri (OI.lit (B := 0) (n := 8) _ k2M rfl rfl (Nat.zero_le _) (by omega)).ri (by omega) (by omega) rfl
  have CE2 : Hid (∀ (v : Value) (C : Nat) (W : World), OI W C v [0] → ∃ A c, v = .slice A 1 c ∧ Calls Try.prog 25 #[.slice A 1 c, .slice (some ⟨W.heap.size, 0, none⟩) 1 1] (W.alloc (.cells #[.int .i64 0] 3)) fun e w' => e = .returned (.bool true) ∧ Below (W.alloc (.cells #[.int .i64 0] 3)).heap.size (W.alloc (.cells #[.int .i64 0] 3)) w') := Lib.hid fun v C W o => by
    obtain ⟨A, c, rfl⟩ := o.shp (n := 1) rfl
    exact ⟨A, c, rfl, sequal_r true A _ 1 c 1 1 [0] [0] _ (o.alloc _).ri (OI.lit (B := 0) (n := 1) _ [0] rfl rfl (Nat.zero_le _) (by omega)).ri (by omega) (by omega) rfl⟩
  go_enter Try.func12, Try.ntmps12
  go_upto_region 2 with (first
    | (go_at_call 34; ((with_reducible refine (CS.out _ _ _ _ _ _ _ _ _ ((oA.mono (Nat.zero_le _)).keep hb2) ((oB.mono (Nat.zero_le _)).keep hb2) (oC.mono (Nat.zero_le _)) (oD.mono (Nat.zero_le _))).mono ?_); rintro e w3 ⟨A3, c3, B3, d3, rfl, oS, oM, hb3⟩))
    | (go_at_call 54; ((with_reducible refine (CK w1).out.mono ?_); rintro e w2 ⟨A2, c2, B2, d2, rfl, oC, oD, hb2⟩))
    | (go_at_call 54; ((with_reducible refine (CK w).out.mono ?_); rintro e w1 ⟨A1, c1, B1, d1, rfl, oA, oB, hb1⟩)))
  have hbx := below_alloc w3 (dbox A3 2 c3 B3 8 d3 0)
  have hd := DB.new w3 A3 2 c3 B3 8 d3 0
  have oS4 := (oS.mono (Nat.zero_le _)).keep hbx
  have oM4 := (oM.mono (Nat.zero_le _)).keep hbx
  have hb4 := below_step (below_step (below_step hb1 hb2) hb3) hbx
  unfold dbox at hbx hd oS4 oM4 hb4
  generalize w3.alloc (.cells #[.slice A3 2 c3, .slice B3 8 d3, .int .i64 0] 24) = w4 at hbx hd oS4 oM4 hb4 ⊢
  obtain ⟨gx, hgx⟩ : ∃ gx, w3.heap.size = gx := ⟨_, rfl⟩
  rw [hgx] at hd ⊢
  obtain ⟨x0, x1, x2, xlt⟩ := hd
  have HB4 := Lib.hid hb4
  have HS4 := Lib.hid oS4
  have HM4 := Lib.hid oM4
  have CC4 := Lib.hid (CC.out A3 B3 c3 d3 w4 oS4 oM4)
  clear CS CC oA oB oC oD oS oM hb1 hb2 hb3 hbx hgx hb4 oS4 oM4
  go_upto_region 3 with ((go_at_call 23; ((with_reducible refine CC4.out.mono ?_); rintro e w5 ⟨v, rfl, oP, hb5⟩)))
  obtain ⟨gP, Pc, rfl⟩ : ∃ gP Pc, v = .slice (some ⟨gP, 0, none⟩) 1 Pc := by
    rcases oP.form with ⟨_, e⟩ | ⟨g', cap', e, _⟩
    · cases e
    · exact ⟨_, _, e⟩
  obtain ⟨z0, z1⟩ := oP.cell 0 (by simp)
  have z0 : w5.cell? ⟨gP, 0, none⟩ = some (.int .i64 1) := z0
  have z1 : w5.cell? ⟨gP, 1, none⟩ = some (.int .i64 5) := z1
  have hgP : gP < w5.heap.size := World.block_lt_of_cell? w5 _ z0
  have y0 := (hb5.cell (p := ⟨gx, 0, none⟩) xlt).trans x0
  have y1 := (hb5.cell (p := ⟨gx, 1, none⟩) xlt).trans x1
  have y2 := (hb5.cell (p := ⟨gx, 2, none⟩) xlt).trans x2
  have hx5 := Nat.lt_of_lt_of_le xlt hb5.size
  have HB5 := Lib.hid hb5
  have CE5 := Lib.hid (CE.out B3 d3 w5 (HM4.out.keep hb5))
  have hbl5 := below_alloc w5 (.cells #[.int .i64 5, .int .i64 4, .int .i64 3, .int .i64 2, .int .i64 1, .int .i64 0, .int .i64 7, .int .i64 6] 3)
  have HBL5 := Lib.hid hbl5
  have hbc : ((1 : Int) == 1 && (5 : Int) == 5) = true := rfl
  clear oP hb5 hbl5 CC4 CE x0 x1 x2
  go_wp2_with (first
    | (go_at_call 25; ((with_reducible refine CE9.mono ?_); rintro e wA ⟨rfl, hbA⟩))
    | (go_at_call 25; ((with_reducible refine CE5.out.mono ?_); rintro e w6 ⟨rfl, hb6'⟩; have hb6 := below_step HBL5.out hb6'; have a0 := (hb6.cell (p := ⟨gx, 0, none⟩) hx5).trans y0; have a1 := (hb6.cell (p := ⟨gx, 1, none⟩) hx5).trans y1; have a2 := (hb6.cell (p := ⟨gx, 2, none⟩) hx5).trans y2; have b0 := (hb6.cell (p := ⟨gP, 0, none⟩) hgP).trans z0; have b1 := (hb6.cell (p := ⟨gP, 1, none⟩) hgP).trans z1; have CF6 := Lib.hid (CF.out A3 B3 c3 d3 w6 (HS4.out.keep (below_step HB5.out hb6)) (HM4.out.keep (below_step HB5.out hb6)))))
    | (go_at_call 41; ((with_reducible refine CF6.out.mono ?_); rintro e w7 ⟨v7, ds7, rfl, hO7, hP7, hb7⟩; obtain ⟨A7, c7, rfl⟩ : ∃ A7 c7, v7 = .slice A7 2 c7 := (by obtain ⟨A, c, e⟩ := hO7.shp; have h2 := congrArg List.length hP7; rw [List.length_map] at h2; simp at h2; exact ⟨A, c, by rw [e, h2]⟩)))
    | (go_at_call 54; ((with_reducible refine (CK w7).out.mono ?_); rintro e w8 ⟨A8, c8, B8, d8, rfl, oE, oF, hb8⟩; have CN8 := Lib.hid (CN.out A8 B8 c8 d8 w8 (oE.mono (Nat.zero_le _)) (oF.mono (Nat.zero_le _)))))
    | (go_at_call 20; ((with_reducible refine CN8.out.mono ?_); rintro e w9 ⟨v9, rfl, oG, hb9⟩; obtain ⟨A9, c9, rfl, CE9⟩ := CE2.out v9 _ w9 oG)))
  go_ret
  exact ⟨rfl, below_step HB4.out (below_step HB5.out (below_step hb6 (below_step hb7 (below_step hb8 (below_step hb9 (below_step (below_alloc w9 _) hbA))))))⟩

end Go.Proofs.Ytkfjledhnakfoaa
