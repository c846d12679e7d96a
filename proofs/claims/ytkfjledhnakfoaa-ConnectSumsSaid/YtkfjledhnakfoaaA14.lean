import Derived.Test.YtkfjledhnakfoaaA13
import Derived.Test.YtkfjledhnakfoaaA05
import Derived.Deep.RegionHeld3
import Derived.Maps.AppendAt
import Derived.Test.YtkfjledhnakfoaaA01
/- Walk: faceNumbers. -/
namespace Go.Proofs.Ytkfjledhnakfoaa
open Go.RowKit Go.Maps

theorem MpF.mono {w : World} {b n n' : Nat} {F : Nat → Nat} (h : MpF w b n F) (hn : n ≤ n') : MpF w b n' F := by
  obtain ⟨D, h1, h2, h3⟩ := h; exact ⟨D, h1.mono hn, h2, h3⟩
/-- The map, when j of the row's numbers are put into it. -/
def rowF (F : Nat → Nat) (row : List Int) (i : Nat) : Nat → Nat → Nat
  | 0 => F
  | j + 1 => upd (rowF F row i j) (row.getD j 0).toNat i
/-- The map of k rows. -/
def fcF (xss : List (List Int)) : Nat → Nat → Nat
  | 0 => fun _ => 0
  | k + 1 => rowF (fcF xss k) (xss.getD k []) k (xss.getD k []).length
/-- Lists of small numbers. -/
def SmallL (xss : List (List Int)) : Prop := xss.length ≤ 256 ∧ ∀ k, k < xss.length → (xss.getD k []).length ≤ 256 ∧ ∀ j, j < (xss.getD k []).length → 0 ≤ (xss.getD k []).getD j 0 ∧ (xss.getD k []).getD j 0 ≤ 1000
theorem small_cyc {f : Nat → Nat} {N : Nat} (p : Perm f N) (q : Nat → Bool) (hN : N ≤ 256) : SmallL (cycL f N q N) := by
  refine ⟨Nat.le_trans (cycL_length _ _ _ _) hN, fun k hk => ?_⟩
  have hk' : k < ((List.range N).filter (sel f N q)).length := by unfold cycL at hk; simpa using hk
  have e : (cycL f N q N).getD k [] = itl f (((List.range N).filter (sel f N q))[k]) (per f N (((List.range N).filter (sel f N q))[k])) := by
    unfold cycL
    rw [List.getD_eq_getElem?_getD, List.getElem?_map, List.getElem?_eq_getElem hk']; rfl
  have hm := List.getElem_mem hk'
  rw [List.mem_filter, List.mem_range] at hm
  rw [e]
  obtain ⟨h, hh⟩ : ∃ h, ((List.range N).filter (sel f N q))[k] = h := ⟨_, rfl⟩
  rw [hh] at hm ⊢
  rw [itl_length]
  refine ⟨by have := (p.per_spec hm.1).2.1; omega, fun j hj => ?_⟩
  rw [itl_getD _ _ _ _ hj]
  have := p.it_lt hm.1 j
  omega
theorem small_faces {s m : List Int} {lp : Int} : SmallL (facesM s m lp) := by
  unfold facesM
  split
  · rename_i hv
    obtain ⟨v1, _, v3, _⟩ := validB_out hv
    obtain ⟨l1, l2, _, _⟩ := limB_out v1
    have i := matesOf_invol v3 (rfl : m.length = m.length)
    rw [l2] at i ⊢
    exact small_cyc (i.perm 3) _ (by omega)
  · exact ⟨by simp, fun k hk => absurd hk (by simp)⟩

def FnPost (w : World) (xss : List (List Int)) (e : Ending) (w' : World) : Prop := ∃ b, e = .returned (.map (some b)) ∧ MpF w' b 65536 (fcF xss xss.length) ∧ w.heap.size ≤ b ∧ Below w.heap.size w w'

set_option maxHeartbeats 6400000 in
set_option maxRecDepth 100000 in
theorem fnum_any (A B : Option Addr) (ns cs nm cm : Nat) (lp : Int) (s m : List Int) (w : World) (h : DV w A ns B nm s m) :
    Calls Try.prog 66 #[dval A ns cs B nm cm lp] w (FnPost w (facesM s m lp)) := by
  have hmm := @run_makeMap Try.prog
  have hd := DB.new w A ns cs B nm cm lp
  have hb0 := below_alloc w (dbox A ns cs B nm cm lp)
  have hb1 := below_alloc (w.alloc (dbox A ns cs B nm cm lp)) (.map #[] 0)
  have hM0 := MpF.made (w.alloc (dbox A ns cs B nm cm lp))
  obtain ⟨d0, d1, d2, dlt⟩ := hd.keep hb1
  have hb := below_step hb0 hb1
  have CF := Lib.hid (faces_any A B ns cs nm cm lp s m _ (h.keep hb))
  have HSM := Lib.hid (small_faces (s := s) (m := m) (lp := lp))
  obtain ⟨xss, hxs⟩ : ∃ xss, facesM s m lp = xss := ⟨_, rfl⟩
  rw [hxs] at CF HSM ⊢
  have hsz : (w.alloc (dbox A ns cs B nm cm lp)).heap.size = w.heap.size + 1 := by simp
  rw [hsz] at hM0
  have hsz2 : ((w.alloc (dbox A ns cs B nm cm lp)).alloc (.map #[] 0)).heap.size = w.heap.size + 2 := by simp
  unfold dbox at d0 d1 d2 dlt hb CF hM0 hsz2
  clear hxs h hd hb0 hb1 hsz
  go_enter Try.func66, Try.ntmps66
  go_upto_region 2 with fail
  generalize (w.alloc (.cells #[.slice A ns cs, .slice B nm cm, .int .i64 lp] 24)).alloc (.map #[] 0) = w0 at d0 d1 d2 dlt hb CF hM0 hsz2 ⊢
  obtain ⟨b, hbb⟩ : ∃ b, w.heap.size + 1 = b := ⟨_, rfl⟩
  rw [hbb] at hM0 ⊢
  have HM0 := Lib.hid hM0
  have HB := Lib.hid hb
  have HLT : Hid (w.heap.size ≤ b ∧ b < w0.heap.size) := Lib.hid ⟨by omega, by omega⟩
  clear hM0 hb hbb hsz2
  go_upto_region 3 with (go_at_call 106; ((with_reducible refine CF.out.mono ?_); rintro e wF ⟨v, rfl, oF, hbF⟩; obtain ⟨FA, Fc, rfl⟩ := oF.form))
  have HOF := Lib.hid oF
  have HBF := Lib.hid hbF
  have HMF := Lib.hid (HM0.out.keep hbF)
  have hl0 : xss.length ≤ 256 := HSM.out.1
  obtain ⟨L, hL⟩ : ∃ L, xss.length = L := ⟨_, rfl⟩
  rw [hL] at hl0 HOF ⊢
  have HL := Lib.hid hL
  have hLi : (L : Int) ≤ 256 := by omega
  clear oF hbF hL d0 d1 d2
  go_wp2
  go_loopw [4, 5, 7, 12] (fun _ _ _ i wr => ∃ k : Nat, k ≤ L ∧ i = .int .i64 k ∧ wF.grownBy wr (some b) ∧ MpF wr b (256 * k) (fcF xss k)) (fun _ _ _ i _ => L - (intOf i).toNat)
  case atStart => exact ⟨0, by omega, rfl, ⟨rfl, rfl, rfl, Nat.le_refl _, fun _ _ _ => rfl⟩, HMF.out.mono (by omega)⟩
  case round =>
    obtain ⟨k, hk, rfl, hgr, hMp⟩ := hrel
    have hk0 : (0 : Int) ≤ (k : Int) := Int.natCast_nonneg _
    by_cases hkn : k < L
    · have hk1 : (k : Int) < (L : Int) := by omega
      obtain ⟨wO, hwO⟩ : ∃ wO : World, wO = wr := ⟨_, rfl⟩
      subst hwO
      have oO := HOF.out.grown_lt hgr (fun g e => by injection e with e; have := HLT.out; omega)
      obtain ⟨_, gA, A', n', c', rfl, hgA1, hgA2, hcel, oR⟩ := oO.el k (by rw [HL.out]; exact hkn)
      obtain ⟨hrl, hre⟩ := HSM.out.2 k (by rw [HL.out]; exact hkn)
      have HE : Hid (fcF xss (k + 1) = rowF (fcF xss k) (xss.getD k []) k (xss.getD k []).length) := Lib.hid rfl
      obtain ⟨row, hrow⟩ : ∃ row, xss.getD k [] = row := ⟨_, rfl⟩
      rw [hrow] at oR hrl hre HE
      have hn' : row.length = n' := by have := oR.ri.1; exact this
      rw [hn'] at hrl HE
      have HOR := Lib.hid oR
      have HRE := Lib.hid hre
      have HNL := Lib.hid hn'
      have HGR := Lib.hid hgr
      have HMP := Lib.hid hMp
      have hni : (n' : Int) ≤ 256 := by omega
      clear oO oR hre hrow hn' hgr hMp hgA1
      go_wp2
      go_loopw [7, 19] (fun _ i wr => ∃ j : Nat, j ≤ n' ∧ i = .int .i64 j ∧ wO.grownBy wr (some b) ∧ MpF wr b (256 * k + j) (rowF (fcF xss k) row k j)) (fun _ i _ => n' - (intOf i).toNat)
      case atStart => exact ⟨0, by omega, rfl, ⟨rfl, rfl, rfl, Nat.le_refl _, fun _ _ _ => rfl⟩, HMP.out⟩
      case round =>
        obtain ⟨j, hj, rfl, hg2, hM2⟩ := hrel
        have hj0 : (0 : Int) ≤ (j : Int) := Int.natCast_nonneg _
        by_cases hjn : j < n'
        · have hj1 : (j : Int) < (n' : Int) := by omega
          have oR2 := HOR.out.grown hg2 (HOR.out.apart_lt _ fun g e => by injection e with e; have := HLT.out; omega)
          obtain ⟨gR, cR, hsl⟩ := oR2.form_pos HNL.out (by omega)
          injection hsl with e1 e2 e3
          subst e1; subst e3
          clear e2
          have hcj := oR2.cell j (by rw [HNL.out]; exact hjn)
          obtain ⟨z1, z2⟩ := HRE.out j (by rw [HNL.out]; exact hjn)
          have HS : Hid (rowF (fcF xss k) row k (j + 1) = upd (rowF (fcF xss k) row k j) (row.getD j 0).toNat k) := Lib.hid rfl
          obtain ⟨z, hz⟩ : ∃ z : Nat, row.getD j 0 = (z : Int) := ⟨(row.getD j 0).toNat, by omega⟩
          rw [hz] at hcj z1 z2 HS
          rw [Int.toNat_natCast] at HS
          obtain ⟨wU, hU, oU, gU⟩ := hM2.update z k (by omega) (by omega) (by omega)
          have HOU := Lib.hid oU
          have HGU := Lib.hid (hg2.trans gU)
          clear oR2 z1 z2 hz oU gU hM2 hg2
          go_wp2
          go_roundw
          case rel => exact ⟨j + 1, by omega, by go_num, HGU.out, by rw [HS.out]; exact HOU.out⟩
          case measure => simp [intOf]; omega
        · obtain rfl : n' = j := by omega
          have HG2 := Lib.hid (HGR.out.trans hg2)
          have HM2 := Lib.hid hM2
          clear hg2 hM2
          go_wp2
          go_roundw
          case rel => exact ⟨k + 1, by omega, by go_num, HG2.out, by rw [HE.out]; exact HM2.out.mono (by omega)⟩
          case measure => simp [intOf]; omega
    · obtain rfl : L = k := by omega
      have HF : Hid (FnPost w xss (.returned (.map (some b))) wr) := Lib.hid ⟨b, rfl, by rw [HL.out]; exact hMp.mono (by omega), HLT.out.1, (below_step HB.out HBF.out).grown hgr (Nat.le_trans HB.out.size HBF.out.size) (fun q e => by injection e with e; have := HLT.out; omega)⟩
      clear hgr hMp
      go_wp2
      go_ret
      exact HF.out

end Go.Proofs.Ytkfjledhnakfoaa

/- Walk: the closure of Cuts; words for slices of pairs. -/
namespace Go.Proofs.Ytkfjledhnakfoaa
open Go.RowKit Go.Maps

theorem Try.infoPair : (Try.prog.info? 39).map (fun i => (i.zero, i.size, i.bytes)) = some (some (.agg #[.int .i64 0, .int .i64 0]), 2, 16) := by kernel_rfl
abbrev pairV (p : Nat × Nat) : Value := .agg #[.int .i64 (p.1 : Int), .int .i64 (p.2 : Int)]
/-- The cells of a list of pairs. -/
def pv (ps : List (Nat × Nat)) : List Value := ps.flatMap fun p => [.int .i64 (p.1 : Int), .int .i64 (p.2 : Int)]
theorem pv_length (ps : List (Nat × Nat)) : (pv ps).length = ps.length * 2 := by
  induction ps with
  | nil => rfl
  | cons p ps ih => show (_ :: _ :: pv ps).length = _; simp [ih]; omega
theorem pv_append (ps qs : List (Nat × Nat)) : pv (ps ++ qs) = pv ps ++ pv qs := by simp [pv]
theorem pv_get (ps : List (Nat × Nat)) : ∀ j, j < ps.length → (pv ps)[j * 2]? = some (.int .i64 ((ps.getD j (0, 0)).1 : Int)) ∧ (pv ps)[j * 2 + 1]? = some (.int .i64 ((ps.getD j (0, 0)).2 : Int)) := by
  induction ps with
  | nil => intro j hj; simp at hj
  | cons p ps ih =>
    intro j hj
    have e : pv (p :: ps) = .int .i64 (p.1 : Int) :: .int .i64 (p.2 : Int) :: pv ps := rfl
    rw [e]
    cases j with
    | zero => exact ⟨rfl, rfl⟩
    | succ j =>
      have := ih j (by simp at hj; omega)
      rw [show (j + 1) * 2 = j * 2 + 1 + 1 by omega]
      simpa using this
/-- v is a slice of the call's own of the pairs ps. -/
def OP (w : World) (B : Nat) (v : Value) (ps : List (Nat × Nat)) : Prop := w.ownsRow B 39 2 v ps.length (pv ps)
theorem OP.nil (w : World) (B : Nat) : OP w B (.slice none 0 0) [] := World.ownsRow_nil w B _ _
theorem OP.grown {w w' : World} {B : Nat} {v : Value} {ps : List (Nat × Nat)} (h : OP w B v ps) {row : Option Nat} (hg : w.grownBy w' row) (hne : v.ownBlock = none ∨ v.ownBlock ≠ row) : OP w' B v ps := World.ownsRow.kept h hg hne
theorem OP.keep {w w' : World} {B : Nat} {v : Value} {ps : List (Nat × Nat)} (h : OP w B v ps) (hb : Below w.heap.size w w') : OP w' B v ps := h.grown (grown_of_below hb) (by cases e : v.ownBlock <;> simp)
theorem OP.mono {w : World} {B B' : Nat} {v : Value} {ps : List (Nat × Nat)} (h : OP w B v ps) (hB : B' ≤ B) : OP w B' v ps := by
  refine ⟨h.1, h.2.imp id ?_⟩
  rintro ⟨g, cap, cur, h1, h2, h3⟩
  exact ⟨g, cap, cur, h1, by omega, h3⟩
theorem OP.form {w : World} {B : Nat} {v : Value} {ps : List (Nat × Nat)} (h : OP w B v ps) : (v = .slice none 0 0 ∧ ps = []) ∨ ∃ g cap, v = .slice (some ⟨g, 0, none⟩) ps.length cap ∧ B ≤ g ∧ g < w.heap.size := by
  rcases h.2 with ⟨h1, h2⟩ | ⟨g, cap, cur, h1, h2, h3, _⟩
  · exact .inl ⟨h1, List.length_eq_zero_iff.1 h2⟩
  · exact .inr ⟨g, cap, h1, h2, (Array.getElem?_eq_some_iff.1 h3).1⟩
theorem OP.cell {w : World} {B g n cap : Nat} {ps : List (Nat × Nat)} (h : OP w B (.slice (some ⟨g, 0, none⟩) n cap) ps) (j : Nat) (hj : j < ps.length) :
    w.cell? ⟨g, j * 2, none⟩ = some (.int .i64 ((ps.getD j (0, 0)).1 : Int)) ∧ w.cell? ⟨g, j * 2 + 1, none⟩ = some (.int .i64 ((ps.getD j (0, 0)).2 : Int)) := by
  obtain ⟨h1, h2⟩ := pv_get ps j hj
  have c1 := World.ownsRow.cells h (g := g) rfl _ _ h1
  have c2 := World.ownsRow.cells h (g := g) rfl _ _ h2
  rw [Addr.add_lit, Nat.zero_add] at c1 c2
  exact ⟨c1, c2⟩
/-- append of one pair. -/
theorem wpList_append_pair {ops : Array Oper} {rest : List Oper} {o : Oper} {a : Act} {w : World} {Q : Exit → Act → World → Prop} (hgd : o.guard = none) (s x : Operand)
    (ho : o.op = .call { callee := .builtin .append, args := #[s, x], argTypes := #[35, 35] }) (B : Nat) (v : Value) (ps : List (Nat × Nat)) (hs : a.eval s = v) (hown : OP w B v ps)
    (g : Nat) (p : Nat × Nat) (hx : a.eval x = .slice (some ⟨g, 0, none⟩) 1 1) (hc1 : w.cell? ⟨g, 0, none⟩ = some (.int .i64 (p.1 : Int))) (hc2 : w.cell? ⟨g, 1, none⟩ = some (.int .i64 (p.2 : Int))) (hlen : ps.length ≤ 1000000000) (hbase : B ≤ w.heap.size)
    (h : ∀ v' w', OP w' B v' (ps ++ [p]) → w.grownBy w' v.ownBlock → (v'.ownBlock = v.ownBlock ∨ v'.ownBlock = some w.heap.size) → wpList Try.prog ops Q rest (a.put o.dst v') w') : wpList Try.prog ops Q (o :: rest) a w := by
  obtain ⟨i0, hi, hz0, hz1, hz2⟩ := info_parts Try.infoPair
  refine wpList_append_own_at w hgd s x 35 ho B 39 i0 _ 2 16 Try.underlying35 hi hz0 hz1 hz2 rfl (by decide) v ps.length (pv ps) hs hown ⟨g, 0, none⟩ 1 1 (pv [p]) hx rfl ?_ ?_ (by unfold maxLen; omega) (by omega) hbase ?_
  · intro j u hj
    rw [Addr.add_lit, Nat.zero_add]
    match j, hj with
    | 0, hj => simp [pv] at hj; rw [← hj]; exact hc1
    | 1, hj => simp [pv] at hj; rw [← hj]; exact hc2
    | n + 2, hj => simp [pv] at hj
  · intro u hu; simp [pv] at hu; rcases hu with rfl | rfl <;> rfl
  · intro v' w' h1 h2 _ h4
    refine h v' w' ?_ h2 h4
    unfold OP
    rw [pv_append, List.length_append]
    exact h1

set_option maxHeartbeats 3200000 in
set_option maxRecDepth 100000 in
theorem sides_any (A B : Option Addr) (ns cs nm cm gd gf b N : Nat) (lp : Int) (m : List Int) (F M : Nat → Nat) (x : Nat) (w : World) (hf : w.cell? ⟨gf, 0, none⟩ = some (.map (some b))) (hd : DB w gd A ns cs B nm cm lp) (hM : MpF w b N F) (hm : RI w B nm m) (hmm : Mates m nm M) (hx : x < nm) (hnm : nm ≤ 256) :
    Calls Try.prog 69 #[.int .i64 (x : Nat), .pointer (some ⟨gf, 0, none⟩), .pointer (some ⟨gd, 0, none⟩)] w fun e w' => e = .returned (pairV (F x, F (M x))) ∧ Below w.heap.size w w' := by
  obtain ⟨d0, d1, d2, dlt⟩ := hd
  obtain ⟨m1, m2⟩ := hmm x hx
  obtain ⟨b0, off, rfl, hb0, hc⟩ := hm.2 (by omega)
  have hcell := hc x hx
  rw [m1] at hcell
  obtain ⟨a, ha⟩ : ∃ a, M x = a := ⟨_, rfl⟩
  rw [ha] at hcell m2 ⊢
  have hba := below_alloc w (.cells #[.int .i64 0, .int .i64 0] 39)
  have L1 := (hM.keep hba.drew).lookup x (by omega)
  have L2 := (hM.keep hba.drew).lookup a (by omega)
  obtain ⟨p, hp⟩ : ∃ p, F x = p := ⟨_, rfl⟩
  obtain ⟨q, hq⟩ : ∃ q, F a = q := ⟨_, rfl⟩
  rw [hp] at L1 ⊢
  rw [hq] at L2 ⊢
  have hflt := World.block_lt_of_cell? w _ hf
  have e1 := (hba.cell (p := ⟨gf, 0, none⟩) hflt).trans hf
  have e2 := (hba.cell (p := ⟨gd, 1, none⟩) dlt).trans d1
  have e3 := (hba.cell (p := ⟨b0, off + x, none⟩) hb0).trans hcell
  have r0 : (w.alloc (.cells #[.int .i64 0, .int .i64 0] 39)).cell? ⟨w.heap.size, 0, none⟩ = some (.int .i64 0) := by rw [World.cell?_alloc_at _ _ _ _ rfl]; rfl
  have r1 : (w.alloc (.cells #[.int .i64 0, .int .i64 0] 39)).cell? ⟨w.heap.size, 1, none⟩ = some (.int .i64 0) := by rw [World.cell?_alloc_at _ _ _ _ rfl]; rfl
  have f0 : (w.alloc (.cells #[.int .i64 0, .int .i64 0] 39)).frozen? ⟨w.heap.size, 0, none⟩ = false := World.frozen?_alloc_at _ _ _ _ rfl
  have f1 : (w.alloc (.cells #[.int .i64 0, .int .i64 0] 39)).frozen? ⟨w.heap.size, 1, none⟩ = false := World.frozen?_alloc_at _ _ _ _ rfl
  have x0 : (0 : Int) ≤ (x : Int) := Int.natCast_nonneg _
  have x1 : (x : Int) < (nm : Int) := by omega
  have nmi : (nm : Int) ≤ 256 := by omega
  clear hm hc hmm m1 ha hp hq hM hf d0 d1 d2 hcell
  go_enter Try.func69, Try.ntmps69
  go_upto_region 1 with fail
  generalize w.alloc (.cells #[.int .i64 0, .int .i64 0] 39) = w0 at hba L1 L2 e1 e2 e3 r0 r1 f0 f1 ⊢
  obtain ⟨gr, hgr⟩ : ∃ gr, w.heap.size = gr := ⟨_, rfl⟩
  have hle : w.heap.size ≤ gr := by omega
  rw [hgr] at r0 r1 f0 f1 ⊢
  clear hgr
  have q1 : ((w0.setCell ⟨gr, 0, none⟩ (.int .i64 (p : Int))).setCell ⟨gr, 1, none⟩ (.int .i64 (q : Int))).cell? ⟨gr, 1, none⟩ = some (.int .i64 (q : Int)) := World.cell?_setCell_same _ _ _ ((World.cell?_setCell_other _ _ _ _ (by simp)).trans r1)
  have q0 : ((w0.setCell ⟨gr, 0, none⟩ (.int .i64 (p : Int))).setCell ⟨gr, 1, none⟩ (.int .i64 (q : Int))).cell? ⟨gr, 0, none⟩ = some (.int .i64 (p : Int)) := (World.cell?_setCell_other _ _ _ _ (by simp)).trans (World.cell?_setCell_same _ _ _ r0)
  have HF : Hid (Below w.heap.size w ((w0.setCell ⟨gr, 0, none⟩ (.int .i64 (p : Int))).setCell ⟨gr, 1, none⟩ (.int .i64 (q : Int))).drew) := Lib.hid (below_set (below_set hba hle _) hle _).drew
  go_wp2
  go_region
  go_wp2
  exact bodyPost_ret (v := pairV (p, q)) (by simp [results, Try.results69, go_sem, q0, q1]) rfl ⟨rfl, HF.out⟩

end Go.Proofs.Ytkfjledhnakfoaa

/- Word: what '==' says of two pairs. -/
namespace Go.Proofs.Ytkfjledhnakfoaa
open Go.RowKit

set_option maxRecDepth 100000 in
theorem pair_eql (a b c d : Int) (W : World) : (Op.equalIn 10000 39 (.agg #[.int .i64 a, .int .i64 b]) (.agg #[.int .i64 c, .int .i64 d])).run Try.prog W = .ok (a == c && b == d) W := by
  have u3 := Try.underlying3
  have a3 := Try.isAgg3
  have z3 := Try.sizeOf3
  rw [show (10000 : Nat) = 9999 + 1 from rfl, Op.equalIn]
  simp only [Sem.run_bind, run_underlying Try.underlying39, Result.andThen_ok]
  simp only [Std.Legacy.Range.forIn_eq_forIn_range', Std.Legacy.Range.size, Nat.sub_zero, Nat.add_sub_cancel, Nat.div_one, List.range'_succ, List.range'_zero, List.forIn_cons, List.forIn_nil]
  go_simp
  by_cases h1 : a = c <;> by_cases h2 : b = d <;> simp [h1, h2]

end Go.Proofs.Ytkfjledhnakfoaa

/- Walks: Index and Contains over a slice of pairs. -/
namespace Go.Proofs.Ytkfjledhnakfoaa
open Go.RowKit

set_option maxHeartbeats 3200000 in
set_option maxRecDepth 100000 in
theorem pindex_any (A : Option Addr) (n c B : Nat) (ps : List (Nat × Nat)) (p : Nat × Nat) (w : World) (h : OP w B (.slice A n c) ps) (hl : ps.length = n) (hn : n ≤ 1000000) :
    Calls Try.prog 78 #[.slice A n c, pairV p] w fun e w' => (∃ j : Int, e = .returned (.int .i64 j) ∧ decide (0 ≤ j) = ps.contains p) ∧ Below w.heap.size w w' := by
  have hpe := pair_eql
  have hb := below_alloc w (.cells #[.int .i64 (p.1 : Int), .int .i64 (p.2 : Int)] 39)
  have s0 : (w.alloc (.cells #[.int .i64 (p.1 : Int), .int .i64 (p.2 : Int)] 39)).cell? ⟨w.heap.size, 0, none⟩ = some (.int .i64 (p.1 : Int)) := by rw [World.cell?_alloc_at _ _ _ _ rfl]; rfl
  have s1 : (w.alloc (.cells #[.int .i64 (p.1 : Int), .int .i64 (p.2 : Int)] 39)).cell? ⟨w.heap.size, 1, none⟩ = some (.int .i64 (p.2 : Int)) := by rw [World.cell?_alloc_at _ _ _ _ rfl]; rfl
  have hO := h.keep hb
  obtain ⟨p1, p2⟩ := p
  simp only at s0 s1 hb hO ⊢
  have HO := Lib.hid hO
  have HL := Lib.hid hl
  have HB := Lib.hid hb
  have hni : (n : Int) ≤ 1000000 := by omega
  clear h hO hl hb
  go_enter Try.func78, Try.ntmps78
  go_upto_region 1 with fail
  generalize w.alloc (.cells #[.int .i64 (p1 : Int), .int .i64 (p2 : Int)] 39) = w0 at s0 s1 HO HB ⊢
  obtain ⟨gx, hgx⟩ : ∃ gx, w.heap.size = gx := ⟨_, rfl⟩
  rw [hgx] at s0 s1 ⊢
  clear hgx
  go_wp2
  go_loopw [5, 8] (fun _ i wr => ∃ k : Nat, k ≤ n ∧ i = .int .i64 k ∧ wr.heap = w0.heap ∧ Below w0.heap.size w0 wr ∧ (ps.take k).contains (p1, p2) = false) (fun _ i _ => n - (intOf i).toNat)
  case atStart => exact ⟨0, by omega, rfl, rfl, Below.refl _ _, rfl⟩
  case round =>
    obtain ⟨k, hk, rfl, hhp, hbr, hno⟩ := hrel
    have hk0 : (0 : Int) ≤ (k : Int) := Int.natCast_nonneg _
    by_cases hkn : k < n
    · have hk1 : (k : Int) < (n : Int) := by omega
      have oP := HO.out.keep hbr
      obtain ⟨g, cap, hsl⟩ : ∃ g cap, Value.slice A n c = .slice (some ⟨g, 0, none⟩) n cap := by
        rcases oP.form with ⟨_, e⟩ | ⟨g, cap, e, _⟩
        · have := HL.out; rw [e] at this; simp at this; omega
        · exact ⟨g, cap, by rw [e, HL.out]⟩
      injection hsl with e1 e2 e3
      subst e1; subst e3
      clear e2
      obtain ⟨c0, c1⟩ := oP.cell k (by rw [HL.out]; exact hkn)
      have htk : ps.take (k + 1) = ps.take k ++ [ps.getD k (0, 0)] := by
        have hl : k < ps.length := by rw [HL.out]; exact hkn
        rw [List.take_succ_eq_append_getElem hl]
        simp [List.getD, hl]
      obtain ⟨q1, q2, hq⟩ : ∃ q1 q2, ps.getD k (0, 0) = (q1, q2) := ⟨_, _, rfl⟩
      rw [hq] at c0 c1 htk
      simp only at c0 c1
      have t0 := (hbr.cell (p := ⟨gx, 0, none⟩) (World.block_lt_of_cell? w0 _ s0)).trans s0
      have t1 := (hbr.cell (p := ⟨gx, 1, none⟩) (World.block_lt_of_cell? w0 _ s1)).trans s1
      have HNO := Lib.hid hno
      have HTK := Lib.hid htk
      have HBR := Lib.hid hbr
      have HHP := Lib.hid hhp
      have HQ := Lib.hid hq
      clear oP htk hno hhp hbr hq
      by_cases e : p1 = q1 ∧ p2 = q2
      · obtain ⟨rfl, rfl⟩ := e
        have HC : Hid (decide (0 ≤ (k : Int)) = ps.contains (p1, p2)) := Lib.hid (by
          have hm : (p1, p2) ∈ ps := by
            rw [← HQ.out]
            have hl : k < ps.length := by rw [HL.out]; exact hkn
            have : ps.getD k (0, 0) = ps[k] := by simp [List.getD, hl]
            rw [this]; exact List.getElem_mem hl
          rw [show ps.contains (p1, p2) = true from List.contains_iff_mem.2 hm]
          simp)
        go_wp2
        go_quiet (fail)
        go_wp2
        go_ret
        exact ⟨⟨_, rfl, HC.out⟩, below_step HB.out (below_drewN HBR.out _)⟩
      · have hbe : ((p1 : Int) == (q1 : Int) && (p2 : Int) == (q2 : Int)) = false := by
          cases h1 : ((p1 : Int) == (q1 : Int)) with
          | false => rfl
          | true =>
            cases h2 : ((p2 : Int) == (q2 : Int)) with
            | false => rfl
            | true => simp at h1 h2; omega
        have HN : Hid ((ps.take (k + 1)).contains (p1, p2) = false) := Lib.hid (by
          rw [HTK.out]
          have h1 := HNO.out
          simp only [List.contains_eq_mem, List.mem_append, List.mem_singleton, decide_eq_false_iff_not] at h1 ⊢
          rintro (h2 | h2)
          · exact h1 h2
          · injection h2 with h3 h4; exact e ⟨h3, h4⟩)
        clear e
        go_wp2
        go_quiet (fail)
        go_wp2
        go_roundw
        case rel => exact ⟨k + 1, by omega, by go_num, HHP.out, below_drewN HBR.out _, HN.out⟩
        case measure => simp [intOf]; omega
    · obtain rfl : n = k := by omega
      have HC : Hid (decide (0 ≤ (-1 : Int)) = ps.contains (p1, p2)) := Lib.hid (by
        rw [List.take_of_length_le (by rw [HL.out]; omega)] at hno
        rw [hno]; rfl)
      have hbf := below_step HB.out hbr
      clear hno hhp hbr
      go_wp2
      go_ret
      exact ⟨⟨_, rfl, HC.out⟩, hbf⟩
set_option maxHeartbeats 1600000 in
theorem phas_any (A : Option Addr) (n c B : Nat) (ps : List (Nat × Nat)) (p : Nat × Nat) (w : World) (h : OP w B (.slice A n c) ps) (hl : ps.length = n) (hn : n ≤ 1000000) :
    Calls Try.prog 32 #[.slice A n c, pairV p] w fun e w' => e = .returned (.bool (ps.contains p)) ∧ Below w.heap.size w w' := by
  have hb := below_alloc w (.cells #[.int .i64 (p.1 : Int), .int .i64 (p.2 : Int)] 39)
  have s0 : (w.alloc (.cells #[.int .i64 (p.1 : Int), .int .i64 (p.2 : Int)] 39)).cell? ⟨w.heap.size, 0, none⟩ = some (.int .i64 (p.1 : Int)) := by rw [World.cell?_alloc_at _ _ _ _ rfl]; rfl
  have s1 : (w.alloc (.cells #[.int .i64 (p.1 : Int), .int .i64 (p.2 : Int)] 39)).cell? ⟨w.heap.size, 1, none⟩ = some (.int .i64 (p.2 : Int)) := by rw [World.cell?_alloc_at _ _ _ _ rfl]; rfl
  have C := Lib.hid (pindex_any A n c B ps p _ (h.keep hb) hl hn)
  have HB := Lib.hid hb
  obtain ⟨bb, hbb⟩ : ∃ bb, ps.contains p = bb := ⟨_, rfl⟩
  rw [hbb] at C ⊢
  clear h hl hb hbb
  go_enter Try.func32, Try.ntmps32
  go_wp2_with (go_at_call 78; ((with_reducible refine C.out.mono ?_); rintro e w1 ⟨⟨j, rfl, hj⟩, hb1⟩))
  go_ret
  exact ⟨ret_bool (by first | exact hj | simp), below_step HB.out hb1⟩

end Go.Proofs.Ytkfjledhnakfoaa

/- Walks: Nugatory, Alternating. -/
namespace Go.Proofs.Ytkfjledhnakfoaa
open Go.RowKit Go.Maps

/-- Of the first k crossings those with an opposite pair in one face. -/
def nugK (F : Nat → Nat) : Nat → List Int
  | 0 => []
  | k + 1 => if F (4 * k) = F (4 * k + 2) ∨ F (4 * k + 1) = F (4 * k + 3) then nugK F k ++ [(k : Int)] else nugK F k
theorem nugK_len (F : Nat → Nat) (k : Nat) : (nugK F k).length ≤ k := by
  induction k with
  | zero => exact Nat.le_refl _
  | succ k ih => unfold nugK; split <;> (try simp) <;> omega
/-- The number of the face to the left. -/
def fcN (s m : List Int) (lp : Int) : Nat → Nat := fcF (facesM s m lp) (facesM s m lp).length
def nugM (s m : List Int) (lp : Int) : List Int := if validB s m lp = true then nugK (fcN s m lp) s.length else []
def NgPost (w : World) (xs : List Int) (e : Ending) (w' : World) : Prop := ∃ v, e = .returned v ∧ OI w' w.heap.size v xs ∧ Below w.heap.size w w'

set_option maxHeartbeats 6400000 in
set_option maxRecDepth 100000 in
theorem nug_any (A B : Option Addr) (ns cs nm cm : Nat) (lp : Int) (s m : List Int) (w : World) (h : DV w A ns B nm s m) :
    Calls Try.prog 20 #[dval A ns cs B nm cm lp] w (NgPost w (nugM s m lp)) := by
  obtain ⟨d0, d1, d2, dlt⟩ := DB.new w A ns cs B nm cm lp
  have hb0 := below_alloc w (dbox A ns cs B nm cm lp)
  have H := Lib.hid (h.keep hb0)
  have hls := h.hs.1
  cases hv : validB s m lp with
  | false =>
    have e : nugM s m lp = [] := by unfold nugM; rw [hv]; rfl
    rw [e]
    have CV := Lib.hid (H.out.valid cs cm lp false hv)
    clear e hv hls h
    go_enter Try.func20, Try.ntmps20
    go_wp2_with (go_at_call 18; ((with_reducible refine CV.out.mono ?_); rintro e w1 ⟨rfl, hb1⟩))
    go_ret
    exact ⟨_, rfl, OI.nil _ _, below_step hb0 hb1⟩
  | true =>
    have e : nugM s m lp = nugK (fcN s m lp) ns := by unfold nugM; rw [if_pos hv, hls]
    rw [e]
    have CV := Lib.hid (H.out.valid cs cm lp true hv)
    have hns : ns ≤ 64 := by
      obtain ⟨v1, _⟩ := validB_out hv
      have := limB_out v1; omega
    have CF : ∀ W, Below (w.alloc (dbox A ns cs B nm cm lp)).heap.size (w.alloc (dbox A ns cs B nm cm lp)) W → Hid (Calls Try.prog 66 #[dval A ns cs B nm cm lp] W fun e w' => ∃ b, e = .returned (.map (some b)) ∧ MpF w' b 65536 (fcN s m lp) ∧ W.heap.size ≤ b ∧ Below W.heap.size W w') := fun W hW => Lib.hid (fnum_any A B ns cs nm cm lp s m W (H.out.keep hW))
    obtain ⟨F, hF⟩ : ∃ F, fcN s m lp = F := ⟨_, rfl⟩
    simp only [hF] at CF ⊢
    have HD : Hid (∀ W, Below (w.alloc (dbox A ns cs B nm cm lp)).heap.size (w.alloc (dbox A ns cs B nm cm lp)) W → W.cell? ⟨w.heap.size, 0, none⟩ = some (.slice A ns cs) ∧ W.cell? ⟨w.heap.size, 1, none⟩ = some (.slice B nm cm) ∧ W.cell? ⟨w.heap.size, 2, none⟩ = some (.int .i64 lp)) := Lib.hid fun W hb => ⟨(hb.cell (p := ⟨w.heap.size, 0, none⟩) dlt).trans d0, (hb.cell (p := ⟨w.heap.size, 1, none⟩) dlt).trans d1, (hb.cell (p := ⟨w.heap.size, 2, none⟩) dlt).trans d2⟩
    have hni : (ns : Int) ≤ 64 := by omega
    clear e hv hls h hF
    go_enter Try.func20, Try.ntmps20
    go_wp2_with (first
      | (go_at_call 18; ((with_reducible refine CV.out.mono ?_); rintro e w1 ⟨rfl, hb1⟩; obtain ⟨x0, x1, x2⟩ := HD.out w1 hb1))
      | (go_at_call 66; ((with_reducible refine (CF _ hb1).out.mono ?_); rintro e w2 ⟨b, rfl, hM, hbb, hb2⟩; obtain ⟨y0, y1, y2⟩ := HD.out w2 (below_step hb1 hb2))))
    have hbw := below_step hb0 (below_step hb1 hb2)
    have HM := Lib.hid hM
    have HBW := Lib.hid hbw
    clear x0 x1 x2 y0 y1 y2 hM hbb d0 d1 d2
    go_loopw [3, 5, 14] (fun v _ i wr => ∃ k : Nat, k ≤ ns ∧ i = .int .i64 k ∧ Below w2.heap.size w2 wr ∧ OI wr w2.heap.size v (nugK F k)) (fun _ _ i _ => ns - (intOf i).toNat)
    case atStart => exact ⟨0, by omega, rfl, Below.refl _ _, OI.nil _ _⟩
    case round =>
      obtain ⟨k, hk, rfl, hbr, hOI⟩ := hrel
      have hk0 : (0 : Int) ≤ (k : Int) := Int.natCast_nonneg _
      by_cases hkn : k < ns
      · have hk1 : (k : Int) < (ns : Int) := by omega
        have hM2 := HM.out.keep hbr
        have L0 := hM2.lookup (4 * k) (by omega)
        have L1 := hM2.lookup (4 * k + 1) (by omega)
        have L2 := hM2.lookup (4 * k + 2) (by omega)
        have L3 := hM2.lookup (4 * k + 3) (by omega)
        rw [show ((4 * k : Nat) : Int) = 4 * (k : Int) by omega] at L0
        rw [show ((4 * k + 1 : Nat) : Int) = 4 * (k : Int) + 1 by omega] at L1
        rw [show ((4 * k + 2 : Nat) : Int) = 4 * (k : Int) + 2 by omega] at L2
        rw [show ((4 * k + 3 : Nat) : Int) = 4 * (k : Int) + 3 by omega] at L3
        have HS : Hid (nugK F (k + 1) = if F (4 * k) = F (4 * k + 2) ∨ F (4 * k + 1) = F (4 * k + 3) then nugK F k ++ [(k : Int)] else nugK F k) := Lib.hid rfl
        have hlen := nugK_len F k
        have hlen' : (nugK F k).length ≤ 1000000000 := by omega
        obtain ⟨a0, h0⟩ : ∃ a, F (4 * k) = a := ⟨_, rfl⟩
        obtain ⟨a1, h1⟩ : ∃ a, F (4 * k + 1) = a := ⟨_, rfl⟩
        obtain ⟨a2, h2⟩ : ∃ a, F (4 * k + 2) = a := ⟨_, rfl⟩
        obtain ⟨a3, h3⟩ : ∃ a, F (4 * k + 3) = a := ⟨_, rfl⟩
        rw [h0] at L0 HS
        rw [h1] at L1 HS
        rw [h2] at L2 HS
        rw [h3] at L3 HS
        have HOI := Lib.hid hOI
        obtain ⟨xs, hxs⟩ : ∃ xs, nugK F k = xs := ⟨_, rfl⟩
        rw [hxs] at HOI HS hlen'
        clear hOI hM2 hlen h0 h1 h2 h3 hxs
        by_cases e1 : a0 = a2
        · have c1 : ((a0 : Int) == (a2 : Int)) = true := by simp [e1]
          have HN : Hid (nugK F (k + 1) = xs ++ [(k : Int)]) := Lib.hid (by rw [HS.out, if_pos (.inl e1)])
          clear HS e1
          go_wp2_with (at_builtin; refine wpList_append_int rfl (.tmp 40) (.tmp 42) rfl w2.heap.size _ xs rfl (HOI.out.alloc _) wr.heap.size (k : Int) rfl (by rw [World.cell?_alloc_at _ _ _ _ rfl]; rfl) hlen' (by have := hbr.size; simp; omega) ?_; intro v2 w4 hown2 hg2; have hb4 : Below w2.heap.size w2 w4 := (below_step hbr (below_alloc wr _)).grown hg2 (by have := hbr.size; simp; omega) (fun q hq => (World.ownsRow.lt HOI.out q hq).1))
          go_roundw
          case rel => exact ⟨k + 1, by omega, by go_num, hb4, by rw [HN.out]; exact hown2⟩
          case measure => simp [intOf]; omega
        · have c1 : ((a0 : Int) == (a2 : Int)) = false := by first | (simp; done) | (simp; omega)
          by_cases e2 : a1 = a3
          · have c2 : ((a1 : Int) == (a3 : Int)) = true := by simp [e2]
            have HN : Hid (nugK F (k + 1) = xs ++ [(k : Int)]) := Lib.hid (by rw [HS.out, if_pos (.inr e2)])
            clear HS e1 e2
            go_wp2_with (at_builtin; refine wpList_append_int rfl (.tmp 40) (.tmp 42) rfl w2.heap.size _ xs rfl (HOI.out.alloc _) wr.heap.size (k : Int) rfl (by rw [World.cell?_alloc_at _ _ _ _ rfl]; rfl) hlen' (by have := hbr.size; simp; omega) ?_; intro v2 w4 hown2 hg2; have hb4 : Below w2.heap.size w2 w4 := (below_step hbr (below_alloc wr _)).grown hg2 (by have := hbr.size; simp; omega) (fun q hq => (World.ownsRow.lt HOI.out q hq).1))
            go_roundw
            case rel => exact ⟨k + 1, by omega, by go_num, hb4, by rw [HN.out]; exact hown2⟩
            case measure => simp [intOf]; omega
          · have c2 : ((a1 : Int) == (a3 : Int)) = false := by first | (simp; done) | (simp; omega)
            have HN : Hid (nugK F (k + 1) = xs) := Lib.hid (by rw [HS.out, if_neg (fun h => h.elim e1 e2)])
            clear HS e1 e2
            go_wp2
            go_roundw
            case rel => exact ⟨k + 1, by omega, by go_num, hbr, by rw [HN.out]; exact HOI.out⟩
            case measure => simp [intOf]; omega
      · obtain rfl : ns = k := by omega
        have HF := Lib.hid (hOI.mono HBW.out.size)
        have hbf := below_step HBW.out hbr
        clear hOI hbr
        go_wp2
        go_ret
        exact ⟨_, rfl, HF.out, hbf⟩

/-- The edges of the first j half-edges lead from over to under or back. -/
def altK (m : List Int) (j : Nat) : Bool := (List.range j).all fun h => decide (h % 2 ≠ matesOf m h % 2)
theorem altK_succ (m : List Int) (j : Nat) : altK m (j + 1) = (altK m j && decide (j % 2 ≠ matesOf m j % 2)) := by unfold altK; rw [List.range_succ, List.all_append]; simp
def altM (s m : List Int) (lp : Int) : Bool := validB s m lp && altK m m.length
theorem altK_le {m : List Int} {i j : Nat} (h : altK m j = true) (hi : i < j) : i % 2 ≠ matesOf m i % 2 := by
  unfold altK at h
  have := List.all_eq_true.1 h i (List.mem_range.2 hi)
  simpa using this

set_option maxHeartbeats 3200000 in
set_option maxRecDepth 100000 in
theorem alt_any (A B : Option Addr) (ns cs nm cm : Nat) (lp : Int) (s m : List Int) (w : World) (h : DV w A ns B nm s m) :
    Calls Try.prog 22 #[dval A ns cs B nm cm lp] w fun e w' => e = .returned (.bool (altM s m lp)) ∧ Below w.heap.size w w' := by
  obtain ⟨d0, d1, d2, dlt⟩ := DB.new w A ns cs B nm cm lp
  have hb0 := below_alloc w (dbox A ns cs B nm cm lp)
  have H := Lib.hid (h.keep hb0)
  have hlm := h.hm.1
  cases hv : validB s m lp with
  | false =>
    have e : altM s m lp = false := by unfold altM; rw [hv]; rfl
    rw [e]
    have CV := Lib.hid (H.out.valid cs cm lp false hv)
    clear e hv hlm h
    go_enter Try.func22, Try.ntmps22
    go_wp2_with (go_at_call 18; ((with_reducible refine CV.out.mono ?_); rintro e w1 ⟨rfl, hb1⟩))
    go_ret
    exact ⟨rfl, below_step hb0 hb1⟩
  | true =>
    have HE : Hid (altM s m lp = altK m nm) := Lib.hid (by unfold altM; rw [hv, hlm]; rfl)
    have CV := Lib.hid (H.out.valid cs cm lp true hv)
    obtain ⟨v1, _, v3, _⟩ := validB_out hv
    have hl := limB_out v1
    have hnm : nm ≤ 256 := by omega
    have HMT := Lib.hid (matesOf_mates v3 hlm)
    have hnmi : (nm : Int) ≤ 256 := by omega
    clear hv hlm h v1 v3 hl
    go_enter Try.func22, Try.ntmps22
    go_wp2_with (go_at_call 18; ((with_reducible refine CV.out.mono ?_); rintro e w1 ⟨rfl, hb1⟩; have x1 := (hb1.cell (p := ⟨w.heap.size, 1, none⟩) dlt).trans d1))
    go_loopw [3, 4, 11] (fun _ _ i wr => ∃ j : Nat, j ≤ nm ∧ i = .int .i64 j ∧ wr = w1 ∧ altK m j = true) (fun _ _ i _ => nm - (intOf i).toNat)
    case atStart => exact ⟨0, by omega, rfl, rfl, rfl⟩
    case round =>
      obtain ⟨j, hj, rfl, hw, hA⟩ := hrel
      subst hw
      have hj0 : (0 : Int) ≤ (j : Int) := Int.natCast_nonneg _
      by_cases hjn : j < nm
      · have hj1 : (j : Int) < (nm : Int) := by omega
        obtain ⟨b, off, rfl, hb, hc⟩ := H.out.hm.2 (by omega)
        have hcell := (hb1.cell (p := ⟨b, off + j, none⟩) hb).trans (hc j hjn)
        obtain ⟨hm1, hm2⟩ := HMT.out j hjn
        rw [hm1] at hcell
        have hS := altK_succ m j
        obtain ⟨a, ha⟩ : ∃ a, matesOf m j = a := ⟨_, rfl⟩
        rw [ha] at hcell hS hm2
        have ha0 : (0 : Int) ≤ (a : Int) := Int.natCast_nonneg _
        have ha1 : (a : Int) ≤ 256 := by omega
        have hjt : (j : Int).tmod 2 = ((j % 2 : Nat) : Int) := by rw [Int.tmod_eq_emod_of_nonneg (by omega)]; omega
        have hat : (a : Int).tmod 2 = ((a % 2 : Nat) : Int) := by rw [Int.tmod_eq_emod_of_nonneg (by omega)]; omega
        have hje : (j : Int) % 2 = ((j % 2 : Nat) : Int) := by omega
        have hae : (a : Int) % 2 = ((a % 2 : Nat) : Int) := by omega
        by_cases e : j % 2 = a % 2
        · have hR : Hid (altK m nm = false) := Lib.hid (by
            cases q : altK m nm with
            | false => rfl
            | true => exact absurd e (by have := altK_le q hjn; rw [ha] at this; exact this))
          obtain ⟨p, hp⟩ : ∃ p, j % 2 = p := ⟨_, rfl⟩
          have hq : a % 2 = p := by omega
          rw [hp] at hjt hje
          rw [hq] at hat hae
          have hc1 : ((p : Int) == (p : Int)) = true := by simp
          clear hA hS e hc hm1 hm2 ha hp hq
          go_wp2
          go_ret
          exact ⟨ret_bool (by rw [HE.out, hR.out]), below_step hb0 hb1⟩
        · have HS2 : Hid (altK m (j + 1) = true) := Lib.hid (by rw [hS, hA]; simp; exact e)
          obtain ⟨p, hp⟩ : ∃ p, j % 2 = p := ⟨_, rfl⟩
          obtain ⟨q, hq⟩ : ∃ q, a % 2 = q := ⟨_, rfl⟩
          rw [hp] at hjt hje e
          rw [hq] at hat hae e
          have hc1 : ((p : Int) == (q : Int)) = false := by first | (simp; done) | (simp; omega)
          clear hA hS hc hm1 hm2 ha hp hq
          go_wp2
          go_roundw
          case rel => exact ⟨j + 1, by omega, by go_num, trivial, HS2.out⟩
          case measure => simp [intOf]; omega
      · obtain rfl : nm = j := by omega
        have HA := Lib.hid hA
        clear hA
        go_wp2
        go_ret
        exact ⟨ret_bool (by rw [HE.out, HA.out]), below_step hb0 hb1⟩

end Go.Proofs.Ytkfjledhnakfoaa
