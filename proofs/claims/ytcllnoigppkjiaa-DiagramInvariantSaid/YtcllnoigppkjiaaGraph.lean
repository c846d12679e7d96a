/- Walk: Graph. -/
import Derived.Test.YtcllnoigppkjiaaOd
namespace Go.Proofs.Ytcllnoigppkjiaa
open Go.RowKit

def GPlace (F : Nat → Nat) (c g : Nat) (w : World) : Prop := ∃ P : Nat → Nat, Arr w g 56 64 (iv P) ∧ ∀ l, l < c → F l = l → P l = plc F l
def GParts (F : Nat → Nat) (c B : Nat) (v : Value) (w : World) : Prop := ∃ vs, OD w B v vs (graphL F c)

set_option maxHeartbeats 3200000 in
set_option maxRecDepth 100000 in
theorem graph_valid (A B : Option Addr) (ns cs nm cm : Nat) (lp : Int) (signs mate : List Int) (w : World) (h : DV w A ns B nm signs mate) (hv : validB signs mate lp = true) :
    Calls Try.prog 26 #[dval A ns cs B nm cm lp] w (CycsPost w (graphL (labM mate) ns)) := by
  have hd := DB.new w A ns cs B nm cm lp
  obtain ⟨d0, d1, d2, dlt⟩ := hd
  have hb0 := below_alloc w (dbox A ns cs B nm cm lp)
  have hls := h.hs.1
  have hlm := h.hm.1
  have CV := Lib.hid ((h.keep hb0).valid cs cm lp true hv)
  obtain ⟨v1, v2, v3, v4⟩ := validB_out hv
  rw [hls, hlm] at v1
  obtain ⟨l1, l2, l3, l4⟩ := limB_out v1
  have HM := Lib.hid (matesOf_mates v3 hlm)
  have CU : ∀ W : World, Below (w.alloc (dbox A ns cs B nm cm lp)).heap.size (w.alloc (dbox A ns cs B nm cm lp)) W → Hid (Calls Try.prog 57 #[dval A ns cs B nm cm lp] W (UfPost mate ns nm (matesOf mate) W)) := fun W hb =>
    uf_any A B ns cs nm cm lp signs mate (matesOf mate) W (h.hm.keep (below_step hb0 hb)) l1 l2 HM.out
  have HLM := Lib.hid hlm
  clear hv hls hlm v1 v2 v3 v4 l2 l3 l4 h
  go_enter Try.func26, Try.ntmps26
  go_upto_region 6 with (first
    | (refine wpList_store_row rfl 56 (.tmp 5) (.tmp 12) rfl w2.heap.size 56 _ (cellsN 64 (iv (cutN ns (ufLab (matesOf mate) nm)))) rfl rfl (heap_alloc_new w2 _) (by rw [cellsN_size]; exact Try.size56) (by rw [cellsN_size]; rfl) (cellsN_one _ _ fun _ => rfl) ?_)
    | (go_at_call 16; ((with_reducible refine CV.out.mono ?_); rintro e w1 ⟨rfl, hb1⟩; have c0 := (hb1.cell (p := ⟨w.heap.size, 0, none⟩) dlt).trans d0; have c1 := (hb1.cell (p := ⟨w.heap.size, 1, none⟩) dlt).trans d1; have c2 := (hb1.cell (p := ⟨w.heap.size, 2, none⟩) dlt).trans d2; have wlt := Nat.lt_of_lt_of_le dlt hb1.size))
    | (go_at_call 57; ((with_reducible refine (CU _ (below_step hb1 (below_alloc w1 _))).out.mono ?_); rintro e w2 ⟨rfl, hb2⟩)))
  rw [zeros64, World.setRow_alloc_new]
  rw [zeros64] at hb2
  have hd1 : DB w1 w.heap.size A ns cs B nm cm lp := ⟨c0, c1, c2, wlt⟩
  have hb12 := below_step (below_alloc w1 _) hb2
  have hbW2 := below_step hb0 (below_step hb1 hb12)
  have hp0 : Arr w2 w1.heap.size 56 64 (iv fun _ => 0) := (Arr.new w1 64 56 (iv fun _ => 0)).keep hb2
  have hl0 := Arr.new w2 64 56 (iv (cutN ns (ufLab (matesOf mate) nm)))
  have hpA := hp0.alloc (.cells (cellsN 64 (iv (cutN ns (ufLab (matesOf mate) nm)))) 56)
  have hdA := (hd1.keep hb12).keep (below_alloc w2 (.cells (cellsN 64 (iv (cutN ns (ufLab (matesOf mate) nm)))) 56))
  have hbA := below_step hbW2 (below_alloc w2 (.cells (cellsN 64 (iv (cutN ns (ufLab (matesOf mate) nm)))) 56))
  have hlt4 : w.heap.size < w1.heap.size := wlt
  have hlt5 : w1.heap.size < w2.heap.size := hp0.lt
  have hszA : (w2.alloc (.cells (cellsN 64 (iv (cutN ns (ufLab (matesOf mate) nm)))) 56)).heap.size = w2.heap.size + 1 := by simp
  have hF : labM mate = ufLab (matesOf mate) nm := by unfold labM; rw [HLM.out]
  rw [← hF] at hl0 hpA hdA hbA hszA ⊢
  generalize w2.alloc (.cells (cellsN 64 (iv (cutN ns (labM mate)))) 56) = wA at hl0 hpA hdA hbA hszA ⊢
  generalize w2.heap.size = g5 at hl0 hlt5 hszA ⊢
  generalize w1.heap.size = g4 at hpA hlt4 hlt5 ⊢
  have hFle := labM_le mate
  have hFid := labM_idem mate
  generalize labM mate = F at *
  have HFL := Lib.hid hFle
  have HFI := Lib.hid hFid
  obtain ⟨d0', d1', d2', dlt'⟩ := hdA
  clear hFle hFid hF hd1 hb12 hbW2 hp0 c0 c1 c2 wlt hb1 hb2 CV CU hb0 d0 d1 d2 dlt HM HLM
  go_wp2
  go_loopw [3, 6, 7, 16] (fun v _ _ i wr => ∃ c : Nat, c ≤ ns ∧ i = .int .i64 c ∧ Below w.heap.size w wr ∧ Arr wr g5 56 64 (iv (cutN ns F)) ∧ GPlace F c g4 wr ∧ GParts F c (g5 + 1) v wr) (fun _ _ _ i _ => ns - (intOf i).toNat)
  case atStart => exact ⟨0, by omega, rfl, hbA, hl0, ⟨_, hpA, fun l hl => absurd hl (by omega)⟩, ⟨[], OD.nil _ _⟩⟩
  case round =>
    obtain ⟨c, hc, rfl, hbr, hlr, hpr, hor⟩ := hrel
    by_cases hlt : c < ns
    · obtain ⟨P, hP, hPl⟩ := hpr
      obtain ⟨vs, hvs⟩ := hor
      have hc0 : (0 : Int) ≤ (c : Int) := Int.natCast_nonneg _
      have hc1 : (c : Int) < 64 := by omega
      have hlc : wr.cell? ⟨g5, c, none⟩ = some (.int .i64 (F c : Nat)) := by
        have := hlr.cell c (by omega)
        simpa [iv, cutN, hlt] using this
      have hln := graphL_length F c
      have hrl := roots_length F c
      have hfle := HFL.out c
      have hB : g5 + 1 ≤ wr.heap.size := hlr.lt
      by_cases hFc : F c = c
      · rw [hFc] at hlc
        have hcp := hP.cell c (by omega)
        have hfp := hP.frozen c
        have hnew := graphL_new HFL.out hFc
        have hpc : plc F c = (graphL F c).length := by rw [hln]; rfl
        obtain ⟨Av, cv, hform⟩ := hvs.oo.form
        subst hform
        have hset := hP.seti c (plc F c)
        have HP2 := Lib.hid (show ∀ l, l < c + 1 → F l = l → upd P c (plc F c) l = plc F l from fun l hl e => by
          by_cases e' : l = c
          · subst e'; rw [upd_same]
          · rw [upd_other _ _ _ _ e']; exact hPl l (by omega) e)
        have hvs2 := hvs.far hP (by decide) (by decide) c (.int .i64 (plc F c : Nat))
        have hl2 := hlr.far (p := ⟨g4, c, none⟩) (by show g5 ≠ g4; omega) (.int .i64 (plc F c : Nat))
        have hb2 := below_set (i := c) hbr (Nat.le_of_lt hlt4) (.int .i64 (plc F c : Nat))
        rw [hpc] at hset hvs2 hl2 hb2
        have HS := Lib.hid hset
        have HV := Lib.hid hvs2
        have HL2 := Lib.hid hl2
        have HB2 := Lib.hid hb2
        have HNEW := Lib.hid hnew
        have HPC := Lib.hid hpc
        have HFC := Lib.hid hFc
        clear hset hvs2 hl2 hb2 hnew hpc hvs hP hPl hln hfle hFc
        have hlen : (graphL F c).length ≤ 64 := by have := graphL_length F c; omega
        generalize hgl : graphL F c = gl at *
        clear hgl
        have eN : (vs ++ [Value.slice none 0 0]).getD gl.length undef = .slice none 0 0 := by simp [List.getD, ← HV.out.len]
        have EN := Lib.hid eN
        clear eN
        go_wp2_with (first
          | (at_builtin
             refine wpList_append_row_od rfl (.tmp 28) (.tmp 29) rfl (g5 + 1) (.slice Av gl.length cv) vs gl rfl (HV.out.keep (below_alloc _ _)) wr.heap.size rfl (by rw [World.cell?_alloc_at _ _ _ _ (by simp)]; rfl) (by omega) (by simp; omega) ?_
             intro v2 w2 ho2 hg2
             have hA5 := (HL2.out.alloc (.cells #[.slice none 0 0] 22)).grown hg2 (HV.out.row.ne_arr HL2.out (by decide))
             have hA4 := (HS.out.alloc (.cells #[.slice none 0 0] 22)).grown hg2 (HV.out.row.ne_arr HS.out (by decide))
             have q5 : w2.cell? ⟨g5, c, none⟩ = some (.int .i64 (F c : Nat)) := by
               have := hA5.cell c (by omega)
               simpa [iv, cutN, hlt] using this
             have q4 : w2.cell? ⟨g4, c, none⟩ = some (.int .i64 (gl.length : Nat)) := by
               have := hA4.cell c (by omega)
               simpa [iv, upd] using this
             obtain ⟨gp, cp, rfl, hgp, hgl2⟩ := ho2.form (by simp)
             have qE := ho2.cell (k := gl.length) (by simp)
             rw [EN.out] at qE
             rw [HFC.out] at q5
             have hb3 : Below w.heap.size w w2 := (HB2.out.alloc (Nat.le_trans HB2.out.size (Nat.le_refl _)) _).grown hg2 (by have := HB2.out.size; simp at this ⊢; omega) (fun q hq => by have := (World.ownsRow.lt HV.out.row q hq).1; omega)
             have H5 := Lib.hid hA5
             have H4 := Lib.hid hA4
             have HO2 := Lib.hid ho2
             have HB3 := Lib.hid hb3
             clear hA5 hA4 ho2 hb3 hg2
             have hlx : ((gl.length : Nat) : Int) < ((gl ++ [[]] : List (List Int)).length : Int) := by simp; omega
             have hly : (gl ++ [[]] : List (List Int)).length = gl.length + 1 := by simp
             rw [hly] at hlx ⊢)
          | (at_builtin
             refine wpList_append_int_at rfl (.tmp 41) (.tmp 43) rfl (g5 + 1) (.slice none 0 0) [] rfl (OI.nil _ _) w2.heap.size (c : Int) rfl (by rw [World.cell?_alloc_at _ _ _ _ rfl]; rfl) (by simp) (by simp; omega) ?_
             intro v3 w3 ho3 hg3 hat3
             obtain ⟨gv, cv3, rfl⟩ := ho3.form_pos (n := 1) rfl (by omega)
             obtain ⟨hod, ⟨u3, hu3⟩, hf3⟩ := (HO2.out.keep (below_alloc w2 (.cells #[.int .i64 (c : Int)] 3))).set_ (k := gl.length) (by simp) ho3 (by rw [EN.out]; exact hg3) (by rw [EN.out]; exact hat3)
             have HOD := Lib.hid hod
             have HG3 := Lib.hid hg3
             clear hod ho3 hg3 hat3))
        go_roundw
        case rel =>
          have hbF : Below w.heap.size w w3 := (HB3.out.alloc HB3.out.size (.cells #[.int .i64 (c : Int)] 3)).grown HG3.out (by have := HB3.out.size; simp; omega) (fun q hq => by simp [Value.ownBlock] at hq)
          have hA5 := ((H5.out.alloc (.cells #[.int .i64 (c : Int)] 3)).grown HG3.out (by simp [Value.ownBlock])).far (p := ⟨gp, gl.length, none⟩) (by show g5 ≠ gp; omega) (.slice (some ⟨gv, 0, none⟩) 1 cv3)
          have hA4 := ((H4.out.alloc (.cells #[.int .i64 (c : Int)] 3)).grown HG3.out (by simp [Value.ownBlock])).far (p := ⟨gp, gl.length, none⟩) (by show g4 ≠ gp; omega) (.slice (some ⟨gv, 0, none⟩) 1 cv3)
          have hB4 : GPlace F (c + 1) g4 (w3.setCell ⟨gp, gl.length, none⟩ (.slice (some ⟨gv, 0, none⟩) 1 cv3)) := ⟨upd P c (plc F c), by rw [HPC.out]; exact hA4, HP2.out⟩
          have hC := HOD.out
          have e : (gl ++ [[]]).set gl.length ([] ++ [(c : Int)]) = gl ++ [[(c : Int)]] := by simp
          have e2 : (gl ++ [[]] : List (List Int)).length = gl.length + 1 := by simp
          rw [e, ← HNEW.out, e2] at hC
          have hgp2 : w.heap.size ≤ gp := by have := HB2.out.size; omega
          exact ⟨c + 1, by omega, by go_num, below_set hbF hgp2 _, hA5, hB4, ⟨_, hC⟩⟩
        case measure => simp [intOf]; omega
      · have hflt : F c < c := by omega
        obtain ⟨hk, hget, hset⟩ := graphL_old hflt (HFI.out c)
        have hplc : P (F c) = plc F (F c) := hPl (F c) hflt (HFI.out c)
        have hpc4 : wr.cell? ⟨g4, F c, none⟩ = some (.int .i64 (plc F (F c) : Nat)) := by rw [← hplc]; exact hP.cell (F c) (by omega)
        obtain ⟨gp, cp, rfl, hgp, hgl2⟩ := hvs.form (by omega)
        have qE := hvs.cell hk
        have hel := hvs.el _ hk
        rw [hget] at hel
        have hml := memb_length F c (F c)
        have hne : ((F c : Int) == (c : Int)) = false := by simp only [beq_eq_false_iff_ne, ne_eq]; omega
        have hlen : (graphL F c).length ≤ 64 := by omega
        obtain ⟨Ae, ne, ce, hvk⟩ : ∃ Ae ne ce, vs.getD (plc F (F c)) undef = .slice Ae ne ce := by
          rcases hel.form with ⟨e, _⟩ | ⟨g', cap', e, _⟩
          · exact ⟨_, _, _, e⟩
          · exact ⟨_, _, _, e⟩
        have HVS := Lib.hid hvs
        have HEL := Lib.hid hel
        have HVK := Lib.hid hvk
        have HSET := Lib.hid hset
        have HK := Lib.hid hk
        have HPO := Lib.hid (show GPlace F (c + 1) g4 wr from ⟨P, hP, fun l hl e => by
          by_cases e' : l = c
          · subst e'; exact absurd e hFc
          · exact hPl l (by omega) e⟩)
        rw [hvk] at qE
        clear hP hPl hvs hel hvk hset hget hplc hFc hln
        generalize hml' : memb F c (F c) = ml at *
        clear hml'
        generalize hgg : graphL F c = gl at *
        clear hgg
        generalize hpp : plc F (F c) = k at *
        clear hpp
        generalize F c = fc at *
        have hfc0 : (0 : Int) ≤ (fc : Int) := Int.natCast_nonneg _
        have hfc1 : (fc : Int) < 64 := by omega
        have hk0 : (0 : Int) ≤ (k : Int) := Int.natCast_nonneg _
        have hk1 : (k : Int) < (gl.length : Int) := by omega
        go_wp2_with (at_builtin
                     refine wpList_append_int_at rfl (.tmp 41) (.tmp 43) rfl (g5 + 1) (.slice Ae ne ce) ml rfl (by have := HEL.out; rw [HVK.out] at this; exact this.alloc _) wr.heap.size (c : Int) rfl (by rw [World.cell?_alloc_at _ _ _ _ rfl]; rfl) (by omega) (by simp; omega) ?_
                     intro v3 w3 ho3 hg3 hat3
                     obtain ⟨gv, cv3, rfl⟩ := ho3.form_pos (n := ml.length + 1) (by simp) (by omega)
                     obtain ⟨hod, ⟨u3, hu3⟩, hf3⟩ := (HVS.out.keep (below_alloc wr (.cells #[.int .i64 (c : Int)] 3))).set_ (k := k) HK.out ho3 (by rw [HVK.out]; exact hg3) (by rw [HVK.out]; exact hat3)
                     have HOD := Lib.hid hod
                     have HG3 := Lib.hid hg3
                     clear hod ho3 hg3 hat3)
        go_roundw
        case rel =>
          have hblk : ∀ q, (Value.slice Ae ne ce).ownBlock = some q → g5 + 1 ≤ q := fun q hq => by
            have h1 := HEL.out
            rw [HVK.out] at h1
            exact (World.ownsRow.lt h1 q hq).1
          have hbF : Below w.heap.size w w3 := (hbr.alloc hbr.size (.cells #[.int .i64 (c : Int)] 3)).grown HG3.out (by have := hbr.size; simp; omega) (fun q hq => by have := hblk q hq; omega)
          have hA5 := ((hlr.alloc (.cells #[.int .i64 (c : Int)] 3)).grown HG3.out (fun e => by have := hblk _ e; omega)).far (p := ⟨gp, k, none⟩) (by show g5 ≠ gp; omega) (.slice (some ⟨gv, 0, none⟩) (ml.length + 1) cv3)
          have hB4 : GPlace F (c + 1) g4 (w3.setCell ⟨gp, k, none⟩ (.slice (some ⟨gv, 0, none⟩) (ml.length + 1) cv3)) := by
            obtain ⟨P', h1, h2⟩ := HPO.out
            exact ⟨P', ((h1.alloc (.cells #[.int .i64 (c : Int)] 3)).grown HG3.out (fun e => by have := hblk _ e; omega)).far (p := ⟨gp, k, none⟩) (by show g4 ≠ gp; omega) _, h2⟩
          have hC := HOD.out
          rw [← HSET.out] at hC
          exact ⟨c + 1, by omega, by go_num, below_set hbF (by omega) _, hA5, hB4, ⟨_, hC⟩⟩
        case measure => simp [intOf]; omega
    · obtain rfl : c = ns := by omega
      obtain ⟨vs, hvs⟩ := hor
      have hoo := hvs.oo
      have HO := Lib.hid (hoo.mono (B' := w.heap.size) (by omega))
      clear hvs hoo hlt hc hpr hlr
      go_wp2
      go_ret
      exact ⟨_, rfl, HO.out, hbr⟩

set_option maxHeartbeats 800000 in
theorem graph_any (A B : Option Addr) (ns cs nm cm : Nat) (lp : Int) (signs mate : List Int) (w : World) (h : DV w A ns B nm signs mate) :
    Calls Try.prog 26 #[dval A ns cs B nm cm lp] w (CycsPost w (graphM signs mate lp)) := by
  cases hv : validB signs mate lp with
  | true =>
    have e : graphM signs mate lp = graphL (labM mate) ns := by simp [graphM, hv, h.hs.1]
    rw [e]
    exact graph_valid A B ns cs nm cm lp signs mate w h hv
  | false =>
    have e : graphM signs mate lp = [] := by simp [graphM, hv]
    rw [e]
    have hb0 := below_alloc w (dbox A ns cs B nm cm lp)
    have CV := Lib.hid ((h.keep hb0).valid cs cm lp false hv)
    have hd := DB.new w A ns cs B nm cm lp
    obtain ⟨d0, d1, d2, dlt⟩ := hd
    clear e hv h
    go_enter Try.func26, Try.ntmps26
    go_wp2_with (go_at_call 16; ((with_reducible refine CV.out.mono ?_); rintro e w1 ⟨rfl, hb1⟩))
    go_ret
    exact ⟨_, rfl, OO.nil _ _, below_step hb0 hb1⟩

end Go.Proofs.Ytcllnoigppkjiaa
