import Derived.Test.YtkfjledhnakfoaaA04
import Derived.Maps.AppendAt
import Derived.Test.YtkfjledhnakfoaaA03
import Derived.Test.YtkfjledhnakfoaaA01
import Derived.Maps.OwnOps
import Derived.Maps.OwnSet
/- Words for memory: a slice of slices of the call's own, whose rows lie apart. -/
namespace Go.Proofs.Ytkfjledhnakfoaa
open Go.RowKit

/-- append of one int, and where the new slice lies. -/
theorem wpList_append_int_at {ops : Array Oper} {rest : List Oper} {o : Oper} {a : Act} {w : World} {Q : Exit → Act → World → Prop} (hgd : o.guard = none) (s x : Operand)
    (ho : o.op = .call { callee := .builtin .append, args := #[s, x], argTypes := #[22, 22] }) (B : Nat) (v : Value) (xs : List Int) (hs : a.eval s = v) (hown : OI w B v xs)
    (g : Nat) (y : Int) (hx : a.eval x = .slice (some ⟨g, 0, none⟩) 1 1) (hc : w.cell? ⟨g, 0, none⟩ = some (.int .i64 y)) (hlen : xs.length ≤ 1000000000) (hbase : B ≤ w.heap.size)
    (h : ∀ v' w', OI w' B v' (xs ++ [y]) → w.grownBy w' v.ownBlock → (v'.ownBlock = v.ownBlock ∨ v'.ownBlock = some w.heap.size) → wpList Try.prog ops Q rest (a.put o.dst v') w') : wpList Try.prog ops Q (o :: rest) a w := by
  obtain ⟨i0, hi, hz0, hz1, hz2⟩ := info_parts Try.infoInt
  refine wpList_append_own_at w hgd s x 22 ho B 3 i0 (.int .i64 0) 1 8 Try.underlying22 hi hz0 hz1 hz2 rfl (by decide) v xs.length (ints xs) hs hown ⟨g, 0, none⟩ 1 1 [.int .i64 y] hx rfl ?_ ?_ (by unfold maxLen; omega) (by omega) hbase ?_
  · intro j u hj
    match j, hj with
    | 0, hj => simp at hj; subst hj; simpa [Addr.add] using hc
  · intro u hu; simp at hu; subst hu; rfl
  · intro v' w' h1 h2 _ h4
    refine h v' w' ?_ h2 h4
    unfold OI
    simpa [ints] using h1

structure OD (w : World) (B : Nat) (v : Value) (vs : List Value) (xss : List (List Int)) : Prop where
  row : ownRow w B 22 v vs
  len : vs.length = xss.length
  el : ∀ i, i < xss.length → OI w B (vs.getD i undef) (xss.getD i [])
  apart : ∀ i j, i < xss.length → j < xss.length → i ≠ j → (vs.getD i undef).ownBlock = none ∨ (vs.getD i undef).ownBlock ≠ (vs.getD j undef).ownBlock
theorem OD.oo {w : World} {B : Nat} {v : Value} {vs : List Value} {xss : List (List Int)} (h : OD w B v vs xss) : OO w B v xss := ⟨vs, h.row, h.len, h.el⟩
theorem OD.nil (w : World) (B : Nat) : OD w B (.slice none 0 0) [] [] := ⟨World.ownsRow_nil w B _ _, rfl, fun i hi => absurd hi (by simp), fun i j hi => absurd hi (by simp)⟩
theorem OD.keep {w w' : World} {B : Nat} {v : Value} {vs : List Value} {xss : List (List Int)} (h : OD w B v vs xss) (hb : Below w.heap.size w w') : OD w' B v vs xss :=
  ⟨h.row.keep hb, h.len, fun i hi => (h.el i hi).keep hb, h.apart⟩
theorem OD.far {w : World} {B g n : Nat} {e : TypeId} {v : Value} {vs : List Value} {xss : List (List Int)} {V : Nat → Value} (h : OD w B v vs xss) (k : Arr w g e n V) (he : e ≠ 3) (he' : e ≠ 22) (j : Nat) (u : Value) : OD (w.setCell ⟨g, j, none⟩ u) B v vs xss :=
  ⟨h.row.far (h.row.ne_arr k he') u, h.len, fun i hi => (h.el i hi).far ((h.el i hi).ne_arr k he) u, h.apart⟩
theorem OD.form {w : World} {B : Nat} {v : Value} {vs : List Value} {xss : List (List Int)} (h : OD w B v vs xss) (hk : 0 < xss.length) : ∃ g cap, v = .slice (some ⟨g, 0, none⟩) xss.length cap ∧ B ≤ g ∧ g < w.heap.size := by
  rcases h.row.2 with ⟨_, h4⟩ | ⟨g, cap, cur, h4, hg, h5, _⟩
  · have := h.len; omega
  · refine ⟨g, cap, by rw [h4, h.len], hg, ?_⟩
    rcases Nat.lt_or_ge g w.heap.size with hlt | hge
    · exact hlt
    · rw [Array.getElem?_eq_none hge] at h5; cases h5

/-- append of one slice. -/
theorem wpList_append_row_od {ops : Array Oper} {rest : List Oper} {o : Oper} {a : Act} {w : World} {Q : Exit → Act → World → Prop} (hgd : o.guard = none) (s x : Operand)
    (ho : o.op = .call { callee := .builtin .append, args := #[s, x], argTypes := #[40, 40] }) (B : Nat) (v : Value) (vs : List Value) (xss : List (List Int)) (hs : a.eval s = v) (hown : OD w B v vs xss)
    (g : Nat) (hx : a.eval x = .slice (some ⟨g, 0, none⟩) 1 1) (hc : w.cell? ⟨g, 0, none⟩ = some (.slice none 0 0)) (hlen : xss.length ≤ 1000000000) (hbase : B ≤ w.heap.size)
    (h : ∀ v' w', OD w' B v' (vs ++ [.slice none 0 0]) (xss ++ [[]]) → w.grownBy w' v.ownBlock → wpList Try.prog ops Q rest (a.put o.dst v') w') : wpList Try.prog ops Q (o :: rest) a w := by
  obtain ⟨i0, hi, hz0, hz1, hz2⟩ := info_parts Try.infoSlice
  have h2 := hown.len
  refine wpList_append_own w hgd s x 40 ho B 22 i0 (.slice none 0 0) 1 24 Try.underlying40 hi hz0 hz1 hz2 rfl (by decide) v vs.length vs hs hown.row ⟨g, 0, none⟩ 1 1 [.slice none 0 0] hx rfl ?_ ?_ (by unfold maxLen; omega) (by omega) hbase ?_
  · intro j u hj
    match j, hj with
    | 0, hj => simp at hj; subst hj; simpa [Addr.add] using hc
  · intro u hu; simp at hu; subst hu; rfl
  · intro v' w' k1 k2 _
    have eL : ∀ i, i < xss.length → (vs ++ [Value.slice none 0 0]).getD i undef = vs.getD i undef := fun i e => by simp [List.getD, List.getElem?_append_left (show i < vs.length by omega)]
    have eN : (vs ++ [Value.slice none 0 0]).getD xss.length undef = .slice none 0 0 := by simp [List.getD, ← h2]
    refine h v' w' ⟨by unfold ownRow; simpa using k1, by simp [h2], fun i hi => ?_, fun i j hi hj hij => ?_⟩ k2
    · simp only [List.length_append, List.length_cons, List.length_nil] at hi
      by_cases e : i < xss.length
      · have e2 : (xss ++ [[]]).getD i [] = xss.getD i [] := by simp [List.getD, List.getElem?_append_left e]
        rw [eL i e, e2]
        exact (hown.el i e).grown k2 ((hown.el i e).ne_row hown.row (by decide))
      · have ei : i = xss.length := by omega
        subst ei
        have e2 : (xss ++ [[]]).getD xss.length [] = [] := by simp [List.getD]
        rw [eN, e2]
        exact OI.nil _ _
    · simp only [List.length_append, List.length_cons, List.length_nil] at hi hj
      by_cases ei : i < xss.length
      · rw [eL i ei]
        by_cases ej : j < xss.length
        · rw [eL j ej]; exact hown.apart i j ei ej hij
        · obtain rfl : j = xss.length := by omega
          rw [eN]
          cases hb : (vs.getD i undef).ownBlock with
          | none => exact .inl rfl
          | some q => exact .inr (by simp [Value.ownBlock])
      · obtain rfl : i = xss.length := by omega
        rw [eN]; exact .inl rfl

/-- Row k is replaced by an appended one. -/
theorem OD.set_ {w w' : World} {B k g n cap : Nat} {v' : Value} {vs : List Value} {xss : List (List Int)} {ys : List Int} (h : OD w B (.slice (some ⟨g, 0, none⟩) n cap) vs xss) (hk : k < xss.length)
    (hv : OI w' B v' ys) (hg : w.grownBy w' (vs.getD k undef).ownBlock) (hat : v'.ownBlock = (vs.getD k undef).ownBlock ∨ v'.ownBlock = some w.heap.size) :
    OD (w'.setCell ⟨g, k, none⟩ v') B (.slice (some ⟨g, 0, none⟩) n cap) (vs.set k v') (xss.set k ys) ∧ (∃ u, w'.cell? ⟨g, k, none⟩ = some u) ∧ w'.frozen? ⟨g, k, none⟩ = false := by
  have hlen := h.len
  have hrow : ownRow w' B 22 (.slice (some ⟨g, 0, none⟩) n cap) vs := World.ownsRow.kept h.row hg (by
    refine .inr fun e => ?_
    rcases (h.el k hk).ne_row h.row (by decide) with h1 | h1
    · rw [h1] at e; cases e
    · exact h1 e.symm)
  have hn : n = vs.length := by
    rcases hrow.2 with ⟨h1, _⟩ | ⟨g', cap', cur, h1, _⟩
    · cases h1
    · injection h1
  subst hn
  have hst := World.ownsRow.stored hrow k v'
  have hother : ∀ i, i < xss.length → i ≠ k → OI w' B (vs.getD i undef) (xss.getD i []) := fun i hi hik =>
    (h.el i hi).grown hg (h.apart i k hi hk hik)
  have hne3 : ∀ {u : Value} {zs : List Int}, OI w' B u zs → u.ownBlock ≠ some g := fun ho => by
    rcases ho.ne_row hrow (by decide) with h1 | h1
    · rw [h1]; simp
    · simpa [Value.ownBlock] using h1
  have eK : (vs.set k v').getD k undef = v' := by simp [List.getD, hlen, hk]
  have eO : ∀ i, i ≠ k → (vs.set k v').getD i undef = vs.getD i undef := fun i hik => by simp [List.getD, List.getElem?_set_ne (Ne.symm hik)]
  have apK : ∀ i, i < xss.length → i ≠ k → (vs.getD i undef).ownBlock = none ∨ (vs.getD i undef).ownBlock ≠ v'.ownBlock := fun i hi hik => by
    rcases hat with e | e
    · rw [e]; exact h.apart i k hi hk hik
    · cases hb : (vs.getD i undef).ownBlock with
      | none => exact .inl rfl
      | some q =>
        refine .inr fun e' => ?_
        rw [e] at e'
        have := (World.ownsRow.lt (h.el i hi) q hb).2
        injection e' with e'
        omega
  refine ⟨⟨?_, by simp [hlen], fun i hi => ?_, fun i j hi hj hij => ?_⟩, ?_, World.ownsRow.frozenAt hrow k⟩
  · have := hst.1
    unfold ownRow
    simpa using this
  · simp only [List.length_set] at hi
    by_cases e : i = k
    · subst e
      have e2 : (xss.set i ys).getD i [] = ys := by simp [List.getD, hi]
      rw [eK, e2]
      exact hv.far (p := ⟨g, i, none⟩) (hne3 hv) _
    · have e2 : (xss.set k ys).getD i [] = xss.getD i [] := by simp [List.getD, List.getElem?_set_ne (Ne.symm e)]
      rw [eO i e, e2]
      exact (hother i hi e).far (p := ⟨g, k, none⟩) (hne3 (hother i hi e)) _
  · simp only [List.length_set] at hi hj
    by_cases ei : i = k
    · subst ei
      rw [eK, eO j (Ne.symm hij)]
      rcases apK j hj (Ne.symm hij) with h1 | h1
      · cases hb : v'.ownBlock with
        | none => exact .inl rfl
        | some q => exact .inr (by rw [h1]; simp)
      · exact .inr (Ne.symm h1)
    · rw [eO i ei]
      by_cases ej : j = k
      · subst ej; rw [eK]; exact apK i hi ei
      · rw [eO j ej]; exact h.apart i j hi hj hij
  · have := World.ownsRow.cellAt hrow k (by omega)
    rw [this]
    exact ⟨_, List.getElem?_eq_getElem (by omega)⟩
theorem OD.cell {w : World} {B k g n cap : Nat} {vs : List Value} {xss : List (List Int)} (h : OD w B (.slice (some ⟨g, 0, none⟩) n cap) vs xss) (hk : k < xss.length) : w.cell? ⟨g, k, none⟩ = some (vs.getD k undef) := by
  have hn : n = vs.length := by
    rcases h.row.2 with ⟨h1, _⟩ | ⟨g', cap', cur, h1, _⟩
    · cases h1
    · injection h1
  have hl := h.len
  subst hn
  have := World.ownsRow.cellAt h.row k (by omega)
  rw [this, List.getElem?_eq_getElem (by omega)]
  have hkv : k < vs.length := by omega
  simp [List.getD, hkv]

end Go.Proofs.Ytkfjledhnakfoaa

/- Walk: Graph. -/
namespace Go.Proofs.Ytkfjledhnakfoaa
open Go.RowKit

def GPlace (F : Nat → Nat) (c g : Nat) (w : World) : Prop := ∃ P : Nat → Nat, Arr w g 74 64 (iv P) ∧ ∀ l, l < c → F l = l → P l = plc F l
def GParts (F : Nat → Nat) (c B : Nat) (v : Value) (w : World) : Prop := ∃ vs, OD w B v vs (graphL F c)

set_option maxHeartbeats 3200000 in
set_option maxRecDepth 100000 in
theorem graph_valid (A B : Option Addr) (ns cs nm cm : Nat) (lp : Int) (signs mate : List Int) (w : World) (h : DV w A ns B nm signs mate) (hv : validB signs mate lp = true) :
    Calls Try.prog 30 #[dval A ns cs B nm cm lp] w (CycsPost w (graphL (labM mate) ns)) := by
  have hd := DB.new w A ns cs B nm cm lp
  obtain ⟨d0, d1, d2, dlt⟩ := hd
  have hb0 := below_alloc w (dbox A ns cs B nm cm lp)
  have hls := h.hs.1
  have hlm := h.hm.1
  have CV := Lib.hid ((h.keep hb0).valid cs cm lp true hv)
  obtain ⟨v1, v2, v3, v4⟩ := validB_out hv
  rw [hls, hlm] at v1
  obtain ⟨l1, l2, l3, l4⟩ := limB_out v1
  have HM := Lib.hid (matesOf_mates v3 hlm)
  have CU : ∀ W : World, Below (w.alloc (dbox A ns cs B nm cm lp)).heap.size (w.alloc (dbox A ns cs B nm cm lp)) W → Hid (Calls Try.prog 76 #[dval A ns cs B nm cm lp] W (UfPost mate ns nm (matesOf mate) W)) := fun W hb =>
    uf_any A B ns cs nm cm lp signs mate (matesOf mate) W (h.hm.keep (below_step hb0 hb)) l1 l2 HM.out
  have HLM := Lib.hid hlm
  clear hv hls hlm v1 v2 v3 v4 l2 l3 l4 h
  go_enter Try.func30, Try.ntmps30
  go_upto_region 6 with (first
    | (refine wpList_store_row rfl 74 (.tmp 5) (.tmp 12) rfl w2.heap.size 74 _ (cellsN 64 (iv (cutN ns (ufLab (matesOf mate) nm)))) rfl rfl (heap_alloc_new w2 _) (by rw [cellsN_size]; exact Try.size56) (by rw [cellsN_size]; rfl) (cellsN_one _ _ fun _ => rfl) ?_)
    | (go_at_call 18; ((with_reducible refine CV.out.mono ?_); rintro e w1 ⟨rfl, hb1⟩; have c0 := (hb1.cell (p := ⟨w.heap.size, 0, none⟩) dlt).trans d0; have c1 := (hb1.cell (p := ⟨w.heap.size, 1, none⟩) dlt).trans d1; have c2 := (hb1.cell (p := ⟨w.heap.size, 2, none⟩) dlt).trans d2; have wlt := Nat.lt_of_lt_of_le dlt hb1.size))
    | (go_at_call 76; ((with_reducible refine (CU _ (below_step hb1 (below_alloc w1 _))).out.mono ?_); rintro e w2 ⟨rfl, hb2⟩)))
  rw [zeros64, World.setRow_alloc_new]
  rw [zeros64] at hb2
  have hd1 : DB w1 w.heap.size A ns cs B nm cm lp := ⟨c0, c1, c2, wlt⟩
  have hb12 := below_step (below_alloc w1 _) hb2
  have hbW2 := below_step hb0 (below_step hb1 hb12)
  have hp0 : Arr w2 w1.heap.size 74 64 (iv fun _ => 0) := (Arr.new w1 64 74 (iv fun _ => 0)).keep hb2
  have hl0 := Arr.new w2 64 74 (iv (cutN ns (ufLab (matesOf mate) nm)))
  have hpA := hp0.alloc (.cells (cellsN 64 (iv (cutN ns (ufLab (matesOf mate) nm)))) 74)
  have hdA := (hd1.keep hb12).keep (below_alloc w2 (.cells (cellsN 64 (iv (cutN ns (ufLab (matesOf mate) nm)))) 74))
  have hbA := below_step hbW2 (below_alloc w2 (.cells (cellsN 64 (iv (cutN ns (ufLab (matesOf mate) nm)))) 74))
  have hlt4 : w.heap.size < w1.heap.size := wlt
  have hlt5 : w1.heap.size < w2.heap.size := hp0.lt
  have hszA : (w2.alloc (.cells (cellsN 64 (iv (cutN ns (ufLab (matesOf mate) nm)))) 74)).heap.size = w2.heap.size + 1 := by simp
  have hF : labM mate = ufLab (matesOf mate) nm := by unfold labM; rw [HLM.out]
  rw [← hF] at hl0 hpA hdA hbA hszA ⊢
  generalize w2.alloc (.cells (cellsN 64 (iv (cutN ns (labM mate)))) 74) = wA at hl0 hpA hdA hbA hszA ⊢
  generalize w2.heap.size = g5 at hl0 hlt5 hszA ⊢
  generalize w1.heap.size = g4 at hpA hlt4 hlt5 ⊢
  have hFle := labM_le mate
  have hFid := labM_idem mate
  generalize labM mate = F at *
  have HFL := Lib.hid hFle
  have HFI := Lib.hid hFid
  obtain ⟨d0', d1', d2', dlt'⟩ := hdA
  clear hFle hFid hF hd1 hb12 hbW2 hp0 c0 c1 c2 wlt hb1 hb2 CV CU hb0 d0 d1 d2 dlt HM HLM
  go_wp2
  go_loopw [3, 6, 7, 16] (fun v _ _ i wr => ∃ c : Nat, c ≤ ns ∧ i = .int .i64 c ∧ Below w.heap.size w wr ∧ Arr wr g5 74 64 (iv (cutN ns F)) ∧ GPlace F c g4 wr ∧ GParts F c (g5 + 1) v wr) (fun _ _ _ i _ => ns - (intOf i).toNat)
  case atStart => exact ⟨0, by omega, rfl, hbA, hl0, ⟨_, hpA, fun l hl => absurd hl (by omega)⟩, ⟨[], OD.nil _ _⟩⟩
  case round =>
    obtain ⟨c, hc, rfl, hbr, hlr, hpr, hor⟩ := hrel
    by_cases hlt : c < ns
    · obtain ⟨P, hP, hPl⟩ := hpr
      obtain ⟨vs, hvs⟩ := hor
      have hc0 : (0 : Int) ≤ (c : Int) := Int.natCast_nonneg _
      have hc1 : (c : Int) < 64 := by omega
      have hlc : wr.cell? ⟨g5, c, none⟩ = some (.int .i64 (F c : Nat)) := by
        have := hlr.cell c (by omega)
        simpa [iv, cutN, hlt] using this
      have hln := graphL_length F c
      have hrl := roots_length F c
      have hfle := HFL.out c
      have hB : g5 + 1 ≤ wr.heap.size := hlr.lt
      by_cases hFc : F c = c
      · rw [hFc] at hlc
        have hcp := hP.cell c (by omega)
        have hfp := hP.frozen c
        have hnew := graphL_new HFL.out hFc
        have hpc : plc F c = (graphL F c).length := by rw [hln]; rfl
        obtain ⟨Av, cv, hform⟩ := hvs.oo.form
        subst hform
        have hset := hP.seti c (plc F c)
        have HP2 := Lib.hid (show ∀ l, l < c + 1 → F l = l → upd P c (plc F c) l = plc F l from fun l hl e => by
          by_cases e' : l = c
          · subst e'; rw [upd_same]
          · rw [upd_other _ _ _ _ e']; exact hPl l (by omega) e)
        have hvs2 := hvs.far hP (by decide) (by decide) c (.int .i64 (plc F c : Nat))
        have hl2 := hlr.far (p := ⟨g4, c, none⟩) (by show g5 ≠ g4; omega) (.int .i64 (plc F c : Nat))
        have hb2 := below_set (i := c) hbr (Nat.le_of_lt hlt4) (.int .i64 (plc F c : Nat))
        rw [hpc] at hset hvs2 hl2 hb2
        have HS := Lib.hid hset
        have HV := Lib.hid hvs2
        have HL2 := Lib.hid hl2
        have HB2 := Lib.hid hb2
        have HNEW := Lib.hid hnew
        have HPC := Lib.hid hpc
        have HFC := Lib.hid hFc
        clear hset hvs2 hl2 hb2 hnew hpc hvs hP hPl hln hfle hFc
        have hlen : (graphL F c).length ≤ 64 := by have := graphL_length F c; omega
        generalize hgl : graphL F c = gl at *
        clear hgl
        have eN : (vs ++ [Value.slice none 0 0]).getD gl.length undef = .slice none 0 0 := by simp [List.getD, ← HV.out.len]
        have EN := Lib.hid eN
        clear eN
        go_wp2_with (first
          | (at_builtin
             refine wpList_append_row_od rfl (.tmp 28) (.tmp 29) rfl (g5 + 1) (.slice Av gl.length cv) vs gl rfl (HV.out.keep (below_alloc _ _)) wr.heap.size rfl (by rw [World.cell?_alloc_at _ _ _ _ (by simp)]; rfl) (by omega) (by simp; omega) ?_
             intro v2 w2 ho2 hg2
             have hA5 := (HL2.out.alloc (.cells #[.slice none 0 0] 22)).grown hg2 (HV.out.row.ne_arr HL2.out (by decide))
             have hA4 := (HS.out.alloc (.cells #[.slice none 0 0] 22)).grown hg2 (HV.out.row.ne_arr HS.out (by decide))
             have q5 : w2.cell? ⟨g5, c, none⟩ = some (.int .i64 (F c : Nat)) := by
               have := hA5.cell c (by omega)
               simpa [iv, cutN, hlt] using this
             have q4 : w2.cell? ⟨g4, c, none⟩ = some (.int .i64 (gl.length : Nat)) := by
               have := hA4.cell c (by omega)
               simpa [iv, upd] using this
             obtain ⟨gp, cp, rfl, hgp, hgl2⟩ := ho2.form (by simp)
             have qE := ho2.cell (k := gl.length) (by simp)
             rw [EN.out] at qE
             rw [HFC.out] at q5
             have hb3 : Below w.heap.size w w2 := (HB2.out.alloc (Nat.le_trans HB2.out.size (Nat.le_refl _)) _).grown hg2 (by have := HB2.out.size; simp at this ⊢; omega) (fun q hq => by have := (World.ownsRow.lt HV.out.row q hq).1; omega)
             have H5 := Lib.hid hA5
             have H4 := Lib.hid hA4
             have HO2 := Lib.hid ho2
             have HB3 := Lib.hid hb3
             clear hA5 hA4 ho2 hb3 hg2
             have hlx : ((gl.length : Nat) : Int) < ((gl ++ [[]] : List (List Int)).length : Int) := by simp; omega
             have hly : (gl ++ [[]] : List (List Int)).length = gl.length + 1 := by simp
             rw [hly] at hlx ⊢)
          | (at_builtin
             refine wpList_append_int_at rfl (.tmp 41) (.tmp 43) rfl (g5 + 1) (.slice none 0 0) [] rfl (OI.nil _ _) w2.heap.size (c : Int) rfl (by rw [World.cell?_alloc_at _ _ _ _ rfl]; rfl) (by simp) (by simp; omega) ?_
             intro v3 w3 ho3 hg3 hat3
             obtain ⟨gv, cv3, rfl⟩ := ho3.form_pos (n := 1) rfl (by omega)
             obtain ⟨hod, ⟨u3, hu3⟩, hf3⟩ := (HO2.out.keep (below_alloc w2 (.cells #[.int .i64 (c : Int)] 3))).set_ (k := gl.length) (by simp) ho3 (by rw [EN.out]; exact hg3) (by rw [EN.out]; exact hat3)
             have HOD := Lib.hid hod
             have HG3 := Lib.hid hg3
             clear hod ho3 hg3 hat3))
        go_roundw
        case rel =>
          have hbF : Below w.heap.size w w3 := (HB3.out.alloc HB3.out.size (.cells #[.int .i64 (c : Int)] 3)).grown HG3.out (by have := HB3.out.size; simp; omega) (fun q hq => by simp [Value.ownBlock] at hq)
          have hA5 := ((H5.out.alloc (.cells #[.int .i64 (c : Int)] 3)).grown HG3.out (by simp [Value.ownBlock])).far (p := ⟨gp, gl.length, none⟩) (by show g5 ≠ gp; omega) (.slice (some ⟨gv, 0, none⟩) 1 cv3)
          have hA4 := ((H4.out.alloc (.cells #[.int .i64 (c : Int)] 3)).grown HG3.out (by simp [Value.ownBlock])).far (p := ⟨gp, gl.length, none⟩) (by show g4 ≠ gp; omega) (.slice (some ⟨gv, 0, none⟩) 1 cv3)
          have hB4 : GPlace F (c + 1) g4 (w3.setCell ⟨gp, gl.length, none⟩ (.slice (some ⟨gv, 0, none⟩) 1 cv3)) := ⟨upd P c (plc F c), by rw [HPC.out]; exact hA4, HP2.out⟩
          have hC := HOD.out
          have e : (gl ++ [[]]).set gl.length ([] ++ [(c : Int)]) = gl ++ [[(c : Int)]] := by simp
          have e2 : (gl ++ [[]] : List (List Int)).length = gl.length + 1 := by simp
          rw [e, ← HNEW.out, e2] at hC
          have hgp2 : w.heap.size ≤ gp := by have := HB2.out.size; omega
          exact ⟨c + 1, by omega, by go_num, below_set hbF hgp2 _, hA5, hB4, ⟨_, hC⟩⟩
        case measure => simp [intOf]; omega
      · have hflt : F c < c := by omega
        obtain ⟨hk, hget, hset⟩ := graphL_old hflt (HFI.out c)
        have hplc : P (F c) = plc F (F c) := hPl (F c) hflt (HFI.out c)
        have hpc4 : wr.cell? ⟨g4, F c, none⟩ = some (.int .i64 (plc F (F c) : Nat)) := by rw [← hplc]; exact hP.cell (F c) (by omega)
        obtain ⟨gp, cp, rfl, hgp, hgl2⟩ := hvs.form (by omega)
        have qE := hvs.cell hk
        have hel := hvs.el _ hk
        rw [hget] at hel
        have hml := memb_length F c (F c)
        have hne : ((F c : Int) == (c : Int)) = false := by simp only [beq_eq_false_iff_ne, ne_eq]; omega
        have hlen : (graphL F c).length ≤ 64 := by omega
        obtain ⟨Ae, ne, ce, hvk⟩ : ∃ Ae ne ce, vs.getD (plc F (F c)) undef = .slice Ae ne ce := by
          rcases hel.form with ⟨e, _⟩ | ⟨g', cap', e, _⟩
          · exact ⟨_, _, _, e⟩
          · exact ⟨_, _, _, e⟩
        have HVS := Lib.hid hvs
        have HEL := Lib.hid hel
        have HVK := Lib.hid hvk
        have HSET := Lib.hid hset
        have HK := Lib.hid hk
        have HPO := Lib.hid (show GPlace F (c + 1) g4 wr from ⟨P, hP, fun l hl e => by
          by_cases e' : l = c
          · subst e'; exact absurd e hFc
          · exact hPl l (by omega) e⟩)
        rw [hvk] at qE
        clear hP hPl hvs hel hvk hset hget hplc hFc hln
        generalize hml' : memb F c (F c) = ml at *
        clear hml'
        generalize hgg : graphL F c = gl at *
        clear hgg
        generalize hpp : plc F (F c) = k at *
        clear hpp
        generalize F c = fc at *
        have hfc0 : (0 : Int) ≤ (fc : Int) := Int.natCast_nonneg _
        have hfc1 : (fc : Int) < 64 := by omega
        have hk0 : (0 : Int) ≤ (k : Int) := Int.natCast_nonneg _
        have hk1 : (k : Int) < (gl.length : Int) := by omega
        go_wp2_with (at_builtin
                     refine wpList_append_int_at rfl (.tmp 41) (.tmp 43) rfl (g5 + 1) (.slice Ae ne ce) ml rfl (by have := HEL.out; rw [HVK.out] at this; exact this.alloc _) wr.heap.size (c : Int) rfl (by rw [World.cell?_alloc_at _ _ _ _ rfl]; rfl) (by omega) (by simp; omega) ?_
                     intro v3 w3 ho3 hg3 hat3
                     obtain ⟨gv, cv3, rfl⟩ := ho3.form_pos (n := ml.length + 1) (by simp) (by omega)
                     obtain ⟨hod, ⟨u3, hu3⟩, hf3⟩ := (HVS.out.keep (below_alloc wr (.cells #[.int .i64 (c : Int)] 3))).set_ (k := k) HK.out ho3 (by rw [HVK.out]; exact hg3) (by rw [HVK.out]; exact hat3)
                     have HOD := Lib.hid hod
                     have HG3 := Lib.hid hg3
                     clear hod ho3 hg3 hat3)
        go_roundw
        case rel =>
          have hblk : ∀ q, (Value.slice Ae ne ce).ownBlock = some q → g5 + 1 ≤ q := fun q hq => by
            have h1 := HEL.out
            rw [HVK.out] at h1
            exact (World.ownsRow.lt h1 q hq).1
          have hbF : Below w.heap.size w w3 := (hbr.alloc hbr.size (.cells #[.int .i64 (c : Int)] 3)).grown HG3.out (by have := hbr.size; simp; omega) (fun q hq => by have := hblk q hq; omega)
          have hA5 := ((hlr.alloc (.cells #[.int .i64 (c : Int)] 3)).grown HG3.out (fun e => by have := hblk _ e; omega)).far (p := ⟨gp, k, none⟩) (by show g5 ≠ gp; omega) (.slice (some ⟨gv, 0, none⟩) (ml.length + 1) cv3)
          have hB4 : GPlace F (c + 1) g4 (w3.setCell ⟨gp, k, none⟩ (.slice (some ⟨gv, 0, none⟩) (ml.length + 1) cv3)) := by
            obtain ⟨P', h1, h2⟩ := HPO.out
            exact ⟨P', ((h1.alloc (.cells #[.int .i64 (c : Int)] 3)).grown HG3.out (fun e => by have := hblk _ e; omega)).far (p := ⟨gp, k, none⟩) (by show g4 ≠ gp; omega) _, h2⟩
          have hC := HOD.out
          rw [← HSET.out] at hC
          exact ⟨c + 1, by omega, by go_num, below_set hbF (by omega) _, hA5, hB4, ⟨_, hC⟩⟩
        case measure => simp [intOf]; omega
    · obtain rfl : c = ns := by omega
      obtain ⟨vs, hvs⟩ := hor
      have hoo := hvs.oo
      have HO := Lib.hid (hoo.mono (B' := w.heap.size) (by omega))
      clear hvs hoo hlt hc hpr hlr
      go_wp2
      go_ret
      exact ⟨_, rfl, HO.out, hbr⟩

set_option maxHeartbeats 800000 in
theorem graph_any (A B : Option Addr) (ns cs nm cm : Nat) (lp : Int) (signs mate : List Int) (w : World) (h : DV w A ns B nm signs mate) :
    Calls Try.prog 30 #[dval A ns cs B nm cm lp] w (CycsPost w (graphM signs mate lp)) := by
  cases hv : validB signs mate lp with
  | true =>
    have e : graphM signs mate lp = graphL (labM mate) ns := by simp [graphM, hv, h.hs.1]
    rw [e]
    exact graph_valid A B ns cs nm cm lp signs mate w h hv
  | false =>
    have e : graphM signs mate lp = [] := by simp [graphM, hv]
    rw [e]
    have hb0 := below_alloc w (dbox A ns cs B nm cm lp)
    have CV := Lib.hid ((h.keep hb0).valid cs cm lp false hv)
    have hd := DB.new w A ns cs B nm cm lp
    obtain ⟨d0, d1, d2, dlt⟩ := hd
    clear e hv h
    go_enter Try.func30, Try.ntmps30
    go_wp2_with (go_at_call 18; ((with_reducible refine CV.out.mono ?_); rintro e w1 ⟨rfl, hb1⟩))
    go_ret
    exact ⟨_, rfl, OO.nil _ _, below_step hb0 hb1⟩

end Go.Proofs.Ytkfjledhnakfoaa

/- Plain mathematics: each number bears the index of the row that it lies in. -/
namespace Go.Proofs.Ytkfjledhnakfoaa

/-- The first j of a row get the colour i. -/
def hueRow (xs : List Int) (i : Nat) : Nat → (Nat → Nat) → Nat → Nat
  | 0, V => V
  | j + 1, V => fun x => if (x : Int) = xs.getD j 0 then i else hueRow xs i j V x
def hue (xss : List (List Int)) : Nat → Nat → Nat
  | 0 => fun _ => 0
  | i + 1 => hueRow (xss.getD i []) i (xss.getD i []).length (hue xss i)
theorem hueRow_in {xs : List Int} {i j q x : Nat} {V : Nat → Nat} (hq : q < j) (e : xs.getD q 0 = x) : hueRow xs i j V x = i := by
  induction j with
  | zero => omega
  | succ j ih =>
    show (if (x : Int) = xs.getD j 0 then i else hueRow xs i j V x) = i
    by_cases h : q = j
    · subst h; rw [e]; simp
    · split
      · rfl
      · exact ih (by omega)
theorem hueRow_out {xs : List Int} {i j x : Nat} {V : Nat → Nat} (hx : ∀ q, q < j → xs.getD q 0 ≠ x) : hueRow xs i j V x = V x := by
  induction j with
  | zero => rfl
  | succ j ih =>
    show (if (x : Int) = xs.getD j 0 then i else hueRow xs i j V x) = V x
    rw [if_neg (fun e => hx j (by omega) e.symm)]
    exact ih fun q hq => hx q (by omega)
theorem getD_mem_int {xs : List Int} {q : Nat} (hq : q < xs.length) : xs.getD q 0 ∈ xs := by
  have e : xs.getD q 0 = xs[q] := by simp [List.getD, hq]
  rw [e]; exact List.getElem_mem hq
theorem hue_done {xss : List (List Int)} {a x : Nat} (hx : (x : Int) ∈ xss.getD a []) (hu : ∀ b, b < xss.length → b ≠ a → (x : Int) ∉ xss.getD b []) {i : Nat} (ha : a < i) (hi : i ≤ xss.length) : hue xss i x = a := by
  induction i with
  | zero => omega
  | succ i ih =>
    show hueRow (xss.getD i []) i _ (hue xss i) x = a
    by_cases e : a = i
    · subst e
      obtain ⟨q, hq, k⟩ := List.getElem_of_mem hx
      exact hueRow_in (q := q) hq (by have e : (xss.getD a []).getD q 0 = (xss.getD a [])[q] := by generalize xss.getD a [] = ys at hq ⊢; simp [List.getD, hq]
                                      rw [e, k])
    · rw [hueRow_out fun q hq k => hu i (by omega) (Ne.symm e) (by rw [← k]; exact getD_mem_int hq)]
      exact ih (by omega) (by omega)

theorem mem_memb {F : Nat → Nat} {n l x : Nat} : (x : Int) ∈ memb F n l ↔ x < n ∧ F x = l := by
  unfold memb
  simp only [List.mem_map, List.mem_filter, List.mem_range, beq_iff_eq]
  constructor
  · rintro ⟨b, ⟨h1, h2⟩, e⟩
    have : b = x := by omega
    subst this; exact ⟨h1, h2⟩
  · rintro ⟨h1, h2⟩
    exact ⟨x, ⟨h1, h2⟩, rfl⟩
theorem mem_memb_nat {F : Nat → Nat} {n l : Nat} {y : Int} (h : y ∈ memb F n l) : ∃ x : Nat, y = x ∧ x < n ∧ F x = l := by
  unfold memb at h
  obtain ⟨b, hb, e⟩ := List.mem_map.1 h
  have hb' := List.mem_filter.1 hb
  exact ⟨b, e.symm, List.mem_range.1 hb'.1, by simpa using hb'.2⟩
theorem roots_nodup (F : Nat → Nat) (n : Nat) : (roots F n).Nodup := List.Pairwise.filter _ List.nodup_range
theorem graphL_get (F : Nat → Nat) (n : Nat) {a : Nat} (ha : a < (graphL F n).length) : ∃ h : a < (roots F n).length, (graphL F n).getD a [] = memb F n (roots F n)[a] := by
  have h : a < (roots F n).length := by rw [← graphL_length]; exact ha
  exact ⟨h, by unfold graphL; simp [List.getD, h]⟩
/-- All painted: numbers of one component bear one colour. -/
theorem hue_same {F : Nat → Nat} {n x y : Nat} (hle : ∀ b, F b ≤ b) (hid : ∀ b, F (F b) = F b) (hx : x < n) (hy : y < n) (e : F x = F y) : hue (graphL F n) (graphL F n).length x = hue (graphL F n) (graphL F n).length y := by
  have hm : F x ∈ roots F n := by
    unfold roots
    rw [List.mem_filter, List.mem_range]
    exact ⟨by have := hle x; omega, by simp [hid]⟩
  obtain ⟨a, ha, ea⟩ := List.getElem_of_mem hm
  have hal : a < (graphL F n).length := by rw [graphL_length]; exact ha
  obtain ⟨h1, h2⟩ := graphL_get F n hal
  have key : ∀ z, z < n → F z = F x → hue (graphL F n) (graphL F n).length z = a := fun z hz ez => by
    refine hue_done (by rw [h2]; exact mem_memb.2 ⟨hz, by rw [ez, ea]⟩) (fun b hb hne hin => ?_) hal (Nat.le_refl _)
    obtain ⟨g1, g2⟩ := graphL_get F n hb
    rw [g2] at hin
    obtain ⟨_, k⟩ := mem_memb.1 hin
    rw [ez, ← ea] at k
    exact hne ((List.getElem_inj (roots_nodup F n)).1 k).symm
  rw [key x hx rfl, key y hy e.symm]

/-- Two of each four are wanted. -/
theorem count_two (p : Nat → Bool) (n : Nat) (h : ∀ c, c < n → (List.range 4).countP (fun s => p (4 * c + s)) = 2) : (List.range (4 * n)).countP p = 2 * n := by
  induction n with
  | zero => rfl
  | succ n ih =>
    have h1 := ih fun c hc => h c (by omega)
    have h2 := h n (by omega)
    rw [show 4 * (n + 1) = 4 * n + 1 + 1 + 1 + 1 by omega, List.range_succ, List.range_succ, List.range_succ, List.range_succ]
    simp only [List.countP_append, List.countP_cons, List.countP_nil]
    simp only [List.range_succ, List.range_zero, List.nil_append, List.countP_append, List.countP_cons, List.countP_nil, Nat.add_zero] at h2
    rw [show 4 * n + 1 + 1 = 4 * n + 2 by omega, show 4 * n + 2 + 1 = 4 * n + 3 by omega]
    omega

end Go.Proofs.Ytkfjledhnakfoaa

/- Words: a map from ints to ints. -/
namespace Go.Proofs.Ytkfjledhnakfoaa
open Go.RowKit Go.Maps

theorem keyInt : Keyed Try.prog 3 := int_keyed Try.underlying3
theorem zeroIntV (w : World) : (zeroValue 3).run Try.prog w = .ok (.int .i64 0) w := by kernel_rfl
/-- The map at block b, of at most n entries, tells F. -/
def MpF (w : World) (b n : Nat) (F : Nat → Nat) : Prop := ∃ D : DataW Unit, w.ownsMap Try.prog 3 (plainElem Try.prog 3) b n D ∧ IsMap D ∧ ∀ x : Nat, D.atKey (.int .i64 (x : Int)) (.lit (.int .i64 0)) = .lit (.int .i64 (F x : Int))
theorem MpF.made (w : World) : MpF (w.alloc (.map #[] 0)) w.heap.size 0 (fun _ => 0) := ⟨_, World.ownsMap_made w _ _ _, ⟨_, rfl⟩, fun _ => rfl⟩
theorem MpF.kept {w w' : World} {b n : Nat} {F : Nat → Nat} (h : MpF w b n F) {row : Option Nat} (hg : w.grownBy w' row) (hne : row ≠ some b) : MpF w' b n F := by
  obtain ⟨D, h1, h2, h3⟩ := h
  exact ⟨D, h1.kept hg (fun e => hne e.symm), h2, h3⟩
theorem MpF.keep {w w' : World} {b n : Nat} {F : Nat → Nat} (h : MpF w b n F) (hb : Below w.heap.size w w') : MpF w' b n F := h.kept (grown_of_below hb) (by simp)
theorem MpF.lt {w : World} {b n : Nat} {F : Nat → Nat} (h : MpF w b n F) : b < w.heap.size := by
  obtain ⟨D, h1, _⟩ := h; exact h1.lt
set_option maxRecDepth 100000 in
theorem MpF.lookup {w : World} {b n : Nat} {F : Nat → Nat} (h : MpF w b n F) (x : Nat) (hx : x ≤ 1000000) : (Instr.lookup 65 (.map (some b)) (.int .i64 (x : Int)) false).run Try.prog w = .ok (.int .i64 (F x : Int)) w := by
  obtain ⟨D, h1, _, h3⟩ := h
  obtain ⟨c, hrun, hat, _⟩ := h1.lookup_int keyInt Try.underlying65 Try.underlying3 (zeroIntV w) (keyOf_int_mk (a := (x : Int)) Try.underlying3 (WalkArith.wf_i64 (by omega)))
  rw [h3 x] at hat
  injection hat with hat
  injection hat with _ hat
  rw [hrun, hat]
theorem int_lit_ne {x y : Int} (h : x ≠ y) : (Lit.int .i64 x) ≠ Lit.int .i64 y := fun e => by injection e with _ e; exact h e
set_option maxRecDepth 100000 in
theorem MpF.update {w : World} {b n : Nat} {F : Nat → Nat} (h : MpF w b n F) (x y : Nat) (hx : x ≤ 1000000) (hy : y ≤ 1000000) (hn : n ≤ 1000000) :
    ∃ w', (Instr.mapUpdate 65 (.map (some b)) (.int .i64 (x : Int)) (.int .i64 (y : Int))).run Try.prog w = .ok () w' ∧ MpF w' b (n + 1) (upd F x y) ∧ w.grownBy w' (some b) := by
  obtain ⟨D, h1, h2, h3⟩ := h
  obtain ⟨w', hrun, o, g⟩ := h1.update (t := 65) (e := 3) keyInt Try.underlying65 (by unfold maxLen; omega) (keyOf_int_mk (a := (x : Int)) Try.underlying3 (WalkArith.wf_i64 (by omega))) (plainElem_int (a := (y : Int)) Try.underlying3 (WalkArith.wf_i64 (by omega)))
  refine ⟨w', hrun, ⟨_, o, (by obtain ⟨_, rfl⟩ := h2; exact ⟨_, rfl⟩), fun z => ?_⟩, g⟩
  by_cases e : z = x
  · subst e
    rw [atKey_put_same h2 (show WideAt.IsKeyLit (Lit.int .i64 (z : Int)) from trivial)]; unfold upd; rw [if_pos rfl]
  · rw [atKey_put_other (int_lit_ne (by omega)), h3 z]; unfold upd; rw [if_neg e]

end Go.Proofs.Ytkfjledhnakfoaa

/- Walk: Faces. -/
namespace Go.Proofs.Ytkfjledhnakfoaa
open Go.RowKit

theorem next56 (A B : Option Addr) (ns cs nm cm gd : Nat) (lp : Int) (mate : List Int) (m : Nat → Nat) (w : World) (hd : DB w gd A ns cs B nm cm lp) (hm : RI w B nm mate) (hmm : Mates mate nm m) (hnm : nm ≤ 256) :
    Next w 131 gd (ff m) nm := fun W x hW hx => by
  have hb0 := hd.keep hW
  obtain ⟨d0, d1, d2, dlt⟩ := hb0
  have C := Lib.hid (nextface_nat A B ns cs nm cm lp mate m x W (hm.keep hW) hx hmm hnm _ rfl)
  clear hd hm hmm hW
  go_enter Try.func131, Try.ntmps131
  go_wp2_with (go_at_call 105; ((with_reducible refine C.out.mono ?_); rintro e w1 ⟨rfl, hb1⟩))
  go_ret
  exact ⟨rfl, hb1⟩
theorem asks54 (N : Nat) (w : World) : Asks w 130 #[] (fun _ => true) N := fun W x hW hx => by
  show Calls Try.prog 130 #[.int .i64 (x : Nat)] W _
  clear hW
  go_enter Try.func130, Try.ntmps130
  go_wp2
  go_ret
  exact ⟨rfl, Below.refl _ _⟩

set_option maxHeartbeats 1600000 in
theorem faces_any (A B : Option Addr) (ns cs nm cm : Nat) (lp : Int) (signs mate : List Int) (w : World) (h : DV w A ns B nm signs mate) :
    Calls Try.prog 106 #[dval A ns cs B nm cm lp] w (CycsPost w (facesM signs mate lp)) := by
  have hd := DB.new w A ns cs B nm cm lp
  obtain ⟨d0, d1, d2, dlt⟩ := hd
  have hb0 := below_alloc w (dbox A ns cs B nm cm lp)
  have hls := h.hs.1
  have hlm := h.hm.1
  cases hv : validB signs mate lp with
  | false =>
    have e : facesM signs mate lp = [] := by simp [facesM, hv]
    rw [e]
    have CV := Lib.hid ((h.keep hb0).valid cs cm lp false hv)
    clear e hv hls hlm
    go_enter Try.func106, Try.ntmps106
    go_wp2_with (go_at_call 18; ((with_reducible refine CV.out.mono ?_); rintro e w1 ⟨rfl, hb1⟩))
    go_ret
    exact ⟨_, rfl, OO.nil _ _, below_step hb0 hb1⟩
  | true =>
    have e : facesM signs mate lp = cycL (ff (matesOf mate)) nm (fun _ => true) nm := by simp [facesM, hv, hlm]
    rw [e]
    have CV := Lib.hid ((h.keep hb0).valid cs cm lp true hv)
    obtain ⟨v1, v2, v3, v4⟩ := validB_out hv
    rw [hls, hlm] at v1
    obtain ⟨l1, l2, l3, l4⟩ := limB_out v1
    have HM := Lib.hid (matesOf_mates v3 hlm)
    have HI := Lib.hid (matesOf_invol v3 hlm)
    have HL := Lib.hid l2
    have HD := Lib.hid (DB.new w A ns cs B nm cm lp)
    have CCf : ∀ w1 : World, Below (w.alloc (dbox A ns cs B nm cm lp)).heap.size (w.alloc (dbox A ns cs B nm cm lp)) w1 →
        Hid (Calls Try.prog 73 #[.int .i64 (nm : Nat), .func (.func 130) #[] #[], .func (.func 131) #[] #[.pointer (some ⟨w.heap.size, 0, none⟩)]] w1 (CycsPost w1 (cycL (ff (matesOf mate)) nm (fun _ => true) nm))) := fun w1 hb1 =>
      cycles_any 131 130 w.heap.size nm #[] (ff (matesOf mate)) (fun _ => true) w1 enters56 enters54
        (next56 A B ns cs nm cm w.heap.size lp mate (matesOf mate) w1 (HD.out.keep hb1) (h.hm.keep (below_step hb0 hb1)) HM.out (by have := HL.out; omega)) (asks54 nm w1) (by have := HI.out; rw [HL.out] at this ⊢; exact this.perm 3) (by have := HL.out; omega)
    clear e hv hls hlm v1 v2 v3 v4 l2
    go_enter Try.func106, Try.ntmps106
    have hmf : ∀ (fn : Fn) (first cap : Array Value) (w : World), (Instr.makeFunc fn first cap).run Try.prog w = .ok (.func fn first cap) w := fun _ _ _ _ => rfl
    go_wp2_with (first
      | (go_at_call 18; ((with_reducible refine CV.out.mono ?_); rintro e w1 ⟨rfl, hb1⟩; have d0' := (hb1.cell (p := ⟨w.heap.size, 0, none⟩) dlt).trans d0; have d1' := (hb1.cell (p := ⟨w.heap.size, 1, none⟩) dlt).trans d1; have d2' := (hb1.cell (p := ⟨w.heap.size, 2, none⟩) dlt).trans d2))
      | (go_at_call 73; ((with_reducible refine (CCf _ hb1).out.mono ?_); rintro e w2 ⟨v, rfl, hov, hb2⟩)))
    go_ret
    have hb01 := below_step hb0 hb1
    exact ⟨_, rfl, hov.mono hb01.size, below_step hb01 hb2⟩

end Go.Proofs.Ytkfjledhnakfoaa
