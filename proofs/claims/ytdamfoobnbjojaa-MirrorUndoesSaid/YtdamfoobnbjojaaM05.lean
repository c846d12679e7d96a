import Derived.Test.YtdamfoobnbjojaaM02
import Derived.Deep.RegionLaw
import Derived.Test.YtdamfoobnbjojaaM04
import Derived.Deep.RegionHeld3
import Derived.Laws.EntriesVeiled
/- Words for memory: a store into one row leaves the others as they were. -/
namespace Go.Proofs.Ytdamfoobnbjojaa
open Go.RowKit

theorem OI.set_ {w : World} {B g n cap : Nat} {xs : List Int} (h : OI w B (.slice (some ⟨g, 0, none⟩) n cap) xs) (hl : xs.length = n) (j : Nat) (z : Int) :
    OI (w.setCell ⟨g, j, none⟩ (.int .i64 z)) B (.slice (some ⟨g, 0, none⟩) n cap) (xs.set j z) ∧ w.grownBy (w.setCell ⟨g, j, none⟩ (.int .i64 z)) (some g) := by
  subst hl
  have := World.ownsRow.stored h j (.int .i64 z)
  refine ⟨?_, this.2⟩
  unfold OI
  simpa [ints, List.map_set] using this.1

theorem OI.apart_lt {w : World} {B : Nat} {v : Value} {xs : List Int} (h : OI w B v xs) (row : Option Nat) (hr : ∀ g, row = some g → g < B) : v.ownBlock = none ∨ v.ownBlock ≠ row := by
  cases hv : v.ownBlock with
  | none => exact .inl rfl
  | some g =>
    refine .inr fun e => ?_
    have h1 := (World.ownsRow.lt h g hv).1
    have h2 := hr g e.symm
    omega

theorem ownRow.apart_lt {w : World} {B : Nat} {e : TypeId} {v : Value} {vs : List Value} (h : ownRow w B e v vs) (row : Option Nat) (hr : ∀ g, row = some g → g < B) : v.ownBlock = none ∨ v.ownBlock ≠ row := by
  cases hv : v.ownBlock with
  | none => exact .inl rfl
  | some g =>
    refine .inr fun e => ?_
    have h1 := (World.ownsRow.lt h g hv).1
    have h2 := hr g e.symm
    omega
theorem OO.grown_lt {w w' : World} {B : Nat} {v : Value} {xss : List (List Int)} (h : OO w B v xss) {row : Option Nat} (hg : w.grownBy w' row) (hr : ∀ g, row = some g → g < B) : OO w' B v xss := by
  obtain ⟨vs, h1, h2, h3⟩ := h
  exact ⟨vs, World.ownsRow.kept h1 hg (h1.apart_lt row hr), h2, fun i hi => (h3 i hi).grown hg ((h3 i hi).apart_lt row hr)⟩
theorem grown_set {w wr : World} {g : Nat} (h : w.grownBy wr (some g)) (j : Nat) (u : Value) : w.grownBy (wr.setCell ⟨g, j, none⟩ u) (some g) :=
  h.trans ⟨rfl, rfl, rfl, by simp [World.setCell], fun k _ hne => Below.heap_setCell wr ⟨g, j, none⟩ u k (by rintro rfl; exact hne rfl)⟩
theorem grown_below {W w w' : World} {B : Nat} (hb : Below B W w) {g : Nat} (hg : w.grownBy w' (some g)) (hB : B ≤ w.heap.size) (hgB : B ≤ g) : Below B W w' := hb.grown hg hB (fun k e => by injection e with e; omega)
/-- A row of a slice of slices of the call's own. -/
theorem OO.el {w : World} {B n c : Nat} {A : Option Addr} {xss : List (List Int)} (h : OO w B (.slice A n c) xss) (k : Nat) (hk : k < xss.length) :
    n = xss.length ∧ ∃ gA A' n' c', A = some ⟨gA, 0, none⟩ ∧ B ≤ gA ∧ gA < w.heap.size ∧ w.cell? ⟨gA, k, none⟩ = some (.slice A' n' c') ∧ OI w B (.slice A' n' c') (xss.getD k []) := by
  obtain ⟨vs, h1, h2, h3⟩ := h
  have hk' : k < vs.length := by omega
  have h8 := h3 k hk
  have h9 : vs.getD k undef = vs[k] := by simp [List.getD, hk']
  rw [h9] at h8
  have hsl : ∃ A' n' c', vs[k] = .slice A' n' c' := by
    rcases h8.form with ⟨e, _⟩ | ⟨g', cap', e, _⟩
    · exact ⟨_, _, _, e⟩
    · exact ⟨_, _, _, e⟩
  obtain ⟨A', n', c', e⟩ := hsl
  rcases h1.2 with ⟨h4, h5⟩ | ⟨g, cap, cur, h4, hB, hg, _⟩
  · omega
  · injection h4 with e1 e2 e3
    have hlt : g < w.heap.size := by
      rcases Nat.lt_or_ge g w.heap.size with hlt | hge
      · exact hlt
      · rw [Array.getElem?_eq_none hge] at hg; cases hg
    subst e1; subst e2; subst e3
    have h6 : w.cell? ⟨g, k, none⟩ = vs[k]? := World.ownsRow.cellAt h1 k (by omega)
    rw [e] at h8
    exact ⟨h2, g, A', n', c', rfl, hB, hlt, by rw [h6, List.getElem?_eq_getElem hk', e], h8⟩

end Go.Proofs.Ytdamfoobnbjojaa

/- Words: append of one element to a row of the call's own, as a step of a region that draws, and at a plain place. -/
namespace Go.Proofs.Ytdamfoobnbjojaa
open Go.RowKit

theorem ownRow.slice {w : World} {B : Nat} {e : TypeId} {v : Value} {vs : List Value} (h : ownRow w B e v vs) : ∃ A c, v = .slice A vs.length c := by
  rcases h.2 with ⟨h1, h2⟩ | ⟨g, cap, cur, h1, _⟩
  · exact ⟨none, 0, by rw [h1, h2]⟩
  · exact ⟨_, cap, h1⟩
theorem step_append_row {P : Program} {ops : Array Oper} {o : Oper} {a : Act} {w : World} {K : Act → World → Prop} {Q : Exit → Act → World → Prop} {E : Prop} (hgd : o.guard = none) (s x : Operand) (tt tr : TypeId) (z : Value) (bytes : Nat)
    (ho : o.op = .call { callee := .builtin .append, args := #[s, x], argTypes := #[tt, tt] }) (ht : P.underlying tt = some (.slice tr)) (hi : (P.info? tr).map (fun i => (i.zero, i.size, i.bytes)) = some (some z, 1, bytes)) (hz : z.cells.size = 1) (hby : bytes ≤ 24)
    (B : Nat) (v : Value) (vs : List Value) (hs : a.eval s = v) (hown : ownRow w B tr v vs) (g : Nat) (u : Value) (hx : a.eval x = .slice (some ⟨g, 0, none⟩) 1 1) (hc : w.cell? ⟨g, 0, none⟩ = some u) (hu : u.oneCell' = true) (hlen : vs.length ≤ 1000000) (hbase : B ≤ w.heap.size)
    (h : ∀ A' c' w', ownRow w' B tr (.slice A' (vs.length + 1) c') (vs ++ [u]) → w.grownBy w' v.ownBlock → K (a.put o.dst (.slice A' (vs.length + 1) c')) w') :
    if Region.wanted o (yielded ops a.tmps) = true then Oper.wp P o a w K Q else E := by
  have hw : Region.wanted o (yielded ops a.tmps) = true := by simp [Region.wanted, hgd]
  rw [if_pos hw]
  obtain ⟨i0, hi0, hz0, hz1, hz2⟩ := info_parts hi
  have hb24 : (vs.length + 1) * bytes ≤ 140737488355328 := by
    have h1 : (vs.length + 1) * bytes ≤ 1000001 * 24 := Nat.mul_le_mul (by omega) hby
    omega
  obtain ⟨v', w', hrun, h1, h2, h3⟩ := run_append_own (P := P) w B tt o.type tr i0 z 1 bytes ht hi0 hz0 hz1 hz2 hz (by decide) v vs.length vs hown ⟨g, 0, none⟩ 1 1 [u] rfl
    (fun j u' hj => by
      match j, hj with
      | 0, hj => simp at hj; subst hj; simpa [Addr.add] using hc)
    (fun u' hu' => by simp at hu'; subst hu'; exact hu) (by unfold maxLen; omega) hb24 hbase
  have h4 : ownRow w' B tr v' (vs ++ [u]) := by unfold ownRow; simpa using h1
  obtain ⟨A', c', rfl⟩ := h4.slice
  unfold Oper.wp execOp
  simp only [ho, resolve, invoke, builtin, Sem.run_bind, Sem.run_pure, Result.andThen_ok, List.map_toArray, List.map_cons, List.map_nil, hs, hx, hrun]
  have e : (vs ++ [u]).length = vs.length + 1 := by simp
  rw [e] at h4 ⊢
  exact h A' c' w' h4 h2
theorem wpList_append_row1 {P : Program} {ops : Array Oper} {rest : List Oper} {o : Oper} {a : Act} {w : World} {Q : Exit → Act → World → Prop} (hgd : o.guard = none) (s x : Operand) (tt tr : TypeId) (z : Value) (bytes : Nat)
    (ho : o.op = .call { callee := .builtin .append, args := #[s, x], argTypes := #[tt, tt] }) (ht : P.underlying tt = some (.slice tr)) (hi : (P.info? tr).map (fun i => (i.zero, i.size, i.bytes)) = some (some z, 1, bytes)) (hz : z.cells.size = 1) (hby : bytes ≤ 24)
    (B : Nat) (v : Value) (vs : List Value) (hs : a.eval s = v) (hown : ownRow w B tr v vs) (g : Nat) (u : Value) (hx : a.eval x = .slice (some ⟨g, 0, none⟩) 1 1) (hc : w.cell? ⟨g, 0, none⟩ = some u) (hu : u.oneCell' = true) (hlen : vs.length ≤ 1000000) (hbase : B ≤ w.heap.size)
    (h : ∀ A' c' w', ownRow w' B tr (.slice A' (vs.length + 1) c') (vs ++ [u]) → w.grownBy w' v.ownBlock → wpList P ops Q rest (a.put o.dst (.slice A' (vs.length + 1) c')) w') : wpList P ops Q (o :: rest) a w := by
  obtain ⟨i0, hi0, hz0, hz1, hz2⟩ := info_parts hi
  have hb24 : (vs.length + 1) * bytes ≤ 140737488355328 := by
    have h1 : (vs.length + 1) * bytes ≤ 1000001 * 24 := Nat.mul_le_mul (by omega) hby
    omega
  refine wpList_append_own w hgd s x tt ho B tr i0 z 1 bytes ht hi0 hz0 hz1 hz2 hz (by decide) v vs.length vs hs hown ⟨g, 0, none⟩ 1 1 [u] hx rfl
    (fun j u' hj => by
      match j, hj with
      | 0, hj => simp at hj; subst hj; simpa [Addr.add] using hc)
    (fun u' hu' => by simp at hu'; subst hu'; exact hu) (by unfold maxLen; omega) hb24 hbase ?_
  intro v' w' h1 h2 _
  have h4 : ownRow w' B tr v' (vs ++ [u]) := by unfold ownRow; simpa using h1
  obtain ⟨A', c', rfl⟩ := h4.slice
  have e : (vs ++ [u]).length = vs.length + 1 := by simp
  rw [e] at h4 ⊢
  exact h A' c' w' h4 h2

end Go.Proofs.Ytdamfoobnbjojaa

/- Walk: moved. -/
namespace Go.Proofs.Ytdamfoobnbjojaa
open Go.RowKit

/-- The function 'func fid', with what it captured, gives x the place T x, in every world after w. -/
def Goes (w : World) (fid : FuncId) (caps : Array Value) (T : Nat → Nat) (N : Nat) : Prop := ∀ (W : World) (x : Nat), Below w.heap.size w W → x < N →
  Calls Try.prog fid (#[.int .i64 (x : Nat)] ++ caps) W fun e W' => e = .returned (.int .i64 (T x : Nat)) ∧ Below W.heap.size W W'

def MvPost (w : World) (ns nm : Nat) (lp : Int) (s m : List Int) (e : Ending) (w' : World) : Prop :=
  ∃ A cs B cm, e = .returned (dval A ns cs B nm cm lp) ∧ OI w' w.heap.size (.slice A ns cs) s ∧ OI w' w.heap.size (.slice B nm cm) m ∧ Below w.heap.size w w'

/-- What holds while the signs are flipped and the mates are moved. -/
structure MvI (w0 wr : World) (gr gm BB ns nm c1 m1 : Nat) (A1 B1 : Option Addr) (lp : Int) (xs ys : List Int) : Prop where
  below : Below w0.heap.size w0 wr
  box : DB wr gm A1 ns c1 B1 nm m1 lp
  bf : ∀ i, wr.frozen? ⟨gm, i, none⟩ = false
  s : OI wr BB (.slice A1 ns c1) xs
  m : OI wr BB (.slice B1 nm m1) ys
theorem MvI.keep {w0 wr w' : World} {gr gm BB ns nm c1 m1 : Nat} {A1 B1 : Option Addr} {lp : Int} {xs ys : List Int} (h : MvI w0 wr gr gm BB ns nm c1 m1 A1 B1 lp xs ys) (hb : Below wr.heap.size wr w') : MvI w0 w' gr gm BB ns nm c1 m1 A1 B1 lp xs ys :=
  ⟨below_step h.below hb, h.box.keep hb, fun i => (hb.frozen (p := ⟨gm, i, none⟩) h.box.2.2.2).trans (h.bf i), h.s.keep hb, h.m.keep hb⟩
theorem DB.set {w : World} {g : Nat} {A : Option Addr} {ns cs : Nat} {B : Option Addr} {nm cm : Nat} {lp : Int} (h : DB w g A ns cs B nm cm lp) {h0 : Nat} (hne : h0 ≠ g) (j : Nat) (u : Value) : DB (w.setCell ⟨h0, j, none⟩ u) g A ns cs B nm cm lp := by
  refine ⟨?_, ?_, ?_, by simp [World.setCell]; exact h.2.2.2⟩ <;> rw [World.cell?_setCell_other _ _ _ _ (by first | (simp; done) | (simp; omega))]
  · exact h.1
  · exact h.2.1
  · exact h.2.2.1
theorem MvI.putS {w0 wr : World} {gr gm BB ns nm c1 m1 gS : Nat} {B1 : Option Addr} {lp : Int} {xs ys : List Int} (h : MvI w0 wr gr gm BB ns nm c1 m1 (some ⟨gS, 0, none⟩) B1 lp xs ys) (hl : xs.length = ns) (h0 : w0.heap.size ≤ BB) (hg : BB ≤ gS ∧ gS < gm)
    (hne : (Value.slice B1 nm m1).ownBlock ≠ some gS) (j : Nat) (z : Int) : MvI w0 (wr.setCell ⟨gS, j, none⟩ (.int .i64 z)) gr gm BB ns nm c1 m1 (some ⟨gS, 0, none⟩) B1 lp (xs.set j z) ys := by
  have hst := OI.set_ h.s hl j z
  refine ⟨below_set h.below (by omega) _, h.box.set (by omega) _ _, fun i => (World.frozen?_setCell _ _ _ _).trans (h.bf i), hst.1, h.m.grown hst.2 (.inr hne)⟩
theorem MvI.putM {w0 wr : World} {gr gm BB ns nm c1 m1 gM : Nat} {A1 : Option Addr} {lp : Int} {xs ys : List Int} (h : MvI w0 wr gr gm BB ns nm c1 m1 A1 (some ⟨gM, 0, none⟩) lp xs ys) (hl : ys.length = nm) (h0 : w0.heap.size ≤ BB) (hg : BB ≤ gM ∧ gM < gm)
    (hne : (Value.slice A1 ns c1).ownBlock = none ∨ (Value.slice A1 ns c1).ownBlock ≠ some gM) (j : Nat) (z : Int) : MvI w0 (wr.setCell ⟨gM, j, none⟩ (.int .i64 z)) gr gm BB ns nm c1 m1 A1 (some ⟨gM, 0, none⟩) lp xs (ys.set j z) := by
  have hst := OI.set_ h.m hl j z
  refine ⟨below_set h.below (by omega) _, h.box.set (by omega) _ _, fun i => (World.frozen?_setCell _ _ _ _).trans (h.bf i), h.s.grown hst.2 hne, hst.1⟩

set_option maxHeartbeats 6400000 in
set_option maxRecDepth 100000 in
theorem moved_any (fP fT : FuncId) (cP cT : Array Value) (P : Nat → Bool) (T : Nat → Nat) (A B : Option Addr) (ns cs nm cm : Nat) (lp : Int) (s m : List Int) (w : World) (hs : RI w A ns s) (hm : RI w B nm m) (hnm : nm = 4 * ns) (hns : ns ≤ 64)
    (hM : ∀ h, h < nm → mt m h = (matesOf m h : Nat) ∧ matesOf m h < nm) (hS : ∀ i, i < ns → s.getD i 0 = 1 ∨ s.getD i 0 = -1) (eP : Enters fP) (eT : Enters fT) (aP : Asks w fP cP P ns) (aT : Goes w fT cT T nm) (hT : ∀ x, x < nm → T x < nm) :
    Calls Try.prog 43 #[dval A ns cs B nm cm lp, .func (.func fP) #[] cP, .func (.func fT) #[] cT] w (MvPost w ns nm lp (fpK P s ns) (mvK T m nm)) := by
  have hcf : ∀ (args : Array Value) (W : World), (callFunc fP args).run Try.prog W = .ok (.enter fP args) W := eP
  have hct : ∀ (args : Array Value) (W : World), (callFunc fT args).run Try.prog W = .ok (.enter fT args) W := eT
  have hls := hs.1
  have hlm := hm.1
  have HLS := Lib.hid hls
  have HLM := Lib.hid hlm
  have HS := Lib.hid hs
  have HM := Lib.hid hm
  have HSV := Lib.hid hS
  have HMV := Lib.hid hM
  have HNM := Lib.hid hnm
  have HAP := Lib.hid aP
  have HAT := Lib.hid aT
  have HTL := Lib.hid hT
  have hnmi : (nm : Int) ≤ 256 := by omega
  have hni : (ns : Int) ≤ 64 := by omega
  have hd := (DB.new w A ns cs B nm cm lp).keep (below_alloc _ (.cells #[.slice none 0 0, .slice none 0 0, .int .i64 0] 24))
  have hb0 := below_step (below_alloc w (dbox A ns cs B nm cm lp)) (below_alloc _ (.cells #[.slice none 0 0, .slice none 0 0, .int .i64 0] 24))
  have hr := DB.new (w.alloc (dbox A ns cs B nm cm lp)) none 0 0 none 0 0 0
  have hrf : ∀ i, ((w.alloc (dbox A ns cs B nm cm lp)).alloc (.cells #[.slice none 0 0, .slice none 0 0, .int .i64 0] 24)).frozen? ⟨w.heap.size + 1, i, none⟩ = false := fun i => World.frozen?_alloc_at _ _ _ _ (by simp)
  have hsz : ((w.alloc (dbox A ns cs B nm cm lp)).alloc (.cells #[.slice none 0 0, .slice none 0 0, .int .i64 0] 24)).heap.size = w.heap.size + 2 := by simp
  have hsz1 : (w.alloc (dbox A ns cs B nm cm lp)).heap.size = w.heap.size + 1 := by simp
  rw [hsz1] at hr
  clear hs hm hS hM hnm aP aT hT eP eT hls hlm
  go_enter Try.func43, Try.ntmps43
  go_upto_region 1 with fail
  generalize (w.alloc (dbox A ns cs B nm cm lp)).alloc (.cells #[.slice none 0 0, .slice none 0 0, .int .i64 0] 24) = w0 at hd hb0 hr hrf hsz ⊢
  obtain ⟨gr, hgr⟩ : ∃ gr, w.heap.size + 1 = gr := ⟨_, rfl⟩
  rw [hgr] at hr hrf ⊢
  obtain ⟨d0, d1, d2, dlt⟩ := hd
  have HRB := Lib.hid hr
  have HRF := Lib.hid hrf
  have HB0 := Lib.hid hb0
  have hgrlt : w.heap.size < gr ∧ gr < w0.heap.size := by omega
  have HGR := Lib.hid hgrlt
  have HHS := Lib.hid hgr
  have CC := Lib.hid (clone_any A B ns cs nm cm lp s m w0 (HS.out.keep hb0) (HM.out.keep hb0) (by omega) (by omega))
  clear hr hrf hb0 hgrlt hgr hsz hsz1
  go_upto_region 2 with (go_at_call 53; ((with_reducible refine CC.out.mono ?_); rintro e w1 ⟨A1, c1, B1, m1, rfl, oS, oM, hne, hb1⟩))
  have hbM := below_alloc w1 (dbox A1 ns c1 B1 nm m1 lp)
  have hbx := DB.new w1 A1 ns c1 B1 nm m1 lp
  have hbf : ∀ i, (w1.alloc (dbox A1 ns c1 B1 nm m1 lp)).frozen? ⟨w1.heap.size, i, none⟩ = false := fun i => World.frozen?_alloc_at _ _ _ _ rfl
  obtain ⟨gm, hgm⟩ : ∃ gm, w1.heap.size = gm := ⟨_, rfl⟩
  obtain ⟨BB, hBB⟩ : ∃ BB, w0.heap.size = BB := ⟨_, rfl⟩
  rw [hgm] at hbx hbf ⊢
  rw [hBB] at oS oM
  have HI0 : Hid (MvI w0 (w1.alloc (dbox A1 ns c1 B1 nm m1 lp)) gr gm BB ns nm c1 m1 A1 B1 lp (fpK P s 0) (mvK T m 0)) := Lib.hid ⟨below_step hb1 hbM, hbx, hbf, oS.keep hbM, oM.keep hbM⟩
  have HSL : Hid (∀ g, (Value.slice A1 ns c1).ownBlock = some g → BB ≤ g ∧ g < gm) := Lib.hid fun g e => by have := World.ownsRow.lt oS g e; omega
  have HML : Hid (∀ g, (Value.slice B1 nm m1).ownBlock = some g → BB ≤ g ∧ g < gm) := Lib.hid fun g e => by have := World.ownsRow.lt oM g e; omega
  have HNE := Lib.hid hne
  have hB0 : w0.heap.size ≤ BB := by omega
  have HD := Lib.hid (⟨d0, d1, d2⟩ : w0.cell? ⟨w.heap.size, 0, none⟩ = some (.slice A ns cs) ∧ w0.cell? ⟨w.heap.size, 1, none⟩ = some (.slice B nm cm) ∧ w0.cell? ⟨w.heap.size, 2, none⟩ = some (.int .i64 lp))
  unfold dbox at HI0
  generalize w1.alloc (.cells #[.slice A1 ns c1, .slice B1 nm m1, .int .i64 lp] 24) = wM at HI0 ⊢
  have c0 := (HI0.out.below.cell (p := ⟨w.heap.size, 0, none⟩) dlt).trans HD.out.1
  clear d0 d1 d2 hne oS oM hbx hbf hbM hgm hBB hb1 CC
  go_wp2
  go_loopw [8, 9, 17] (fun _ _ i wr => ∃ k : Nat, k ≤ ns ∧ i = .int .i64 k ∧ MvI w0 wr gr gm BB ns nm c1 m1 A1 B1 lp (fpK P s k) (mvK T m 0)) (fun _ _ i _ => ns - (intOf i).toNat)
  case atStart => exact ⟨0, by omega, rfl, HI0.out⟩
  case round =>
    obtain ⟨k, hk, rfl, hI⟩ := hrel
    have hk0 : (0 : Int) ≤ (k : Int) := Int.natCast_nonneg _
    by_cases hkn : k < ns
    · have hk1 : (k : Int) < (ns : Int) := by omega
      have hbw : Below w.heap.size w wr := below_step HB0.out hI.below
      obtain ⟨b, off, rfl, hb, hc⟩ := HS.out.2 (by omega)
      have hcell := (hbw.cell (p := ⟨b, off + k, none⟩) hb).trans (hc k hkn)
      have hsv := HSV.out k hkn
      have CP := Lib.hid (HAP.out wr k hbw hkn)
      have HI := Lib.hid hI
      cases hPk : P k with
      | false =>
        rw [hPk] at CP
        have HE : Hid (fpK P s (k + 1) = fpK P s k) := Lib.hid (by show (if P k = true then _ else _) = _; rw [if_neg (by rw [hPk]; decide)])
        clear hPk hI hc hsv hbw
        go_wp2_with ((with_reducible refine CP.out.mono ?_); rintro e w2 ⟨rfl, hb2⟩)
        go_roundw
        case rel => exact ⟨k + 1, by omega, by go_num, by rw [HE.out]; exact HI.out.keep hb2⟩
        case measure => simp [intOf]; omega
      | true =>
        obtain ⟨gS, pc, hsl⟩ := hI.s.form_pos (show (fpK P s k).length = ns from by rw [fpK_length]; exact HLS.out) (by omega)
        injection hsl with e1 e2 e3
        subst e1; subst e3
        clear e2
        obtain ⟨x, hx⟩ : ∃ x, s.getD k 0 = x := ⟨_, rfl⟩
        rw [hPk] at CP
        have HE : Hid (fpK P s (k + 1) = (fpK P s k).set k (-x)) := Lib.hid (by show (if P k = true then _ else _) = _; rw [if_pos hPk, hx])
        rw [hx] at hcell hsv
        have hng : IntKind.i64.wrap (-x) = -x := IntWalk.i64_in _ (by omega)
        have hgS := HSL.out gS rfl
        have hMne : (Value.slice B1 nm m1).ownBlock ≠ some gS := by
          rcases HNE.out with q | q
          · cases q
          · exact fun e => q e.symm
        have hlen : (fpK P s k).length = ns := by rw [fpK_length]; exact HLS.out
        have HLN := Lib.hid hlen
        clear hPk hI hc hsv hbw hx hlen
        go_wp2_with ((with_reducible refine CP.out.mono ?_); rintro e w2 ⟨rfl, hb2⟩; have HI2 := Lib.hid (HI.out.keep hb2); have q0 := HI2.out.box.1; have qc := HI2.out.s.cell k (by rw [HLN.out]; exact hkn); have qf : w2.frozen? ⟨gS, k, none⟩ = false := (by have := HI2.out.s; unfold OI at this; rw [HLN.out] at this; exact World.ownsRow.frozenAt this k))
        go_roundw
        case rel => exact ⟨k + 1, by omega, by go_num, by rw [HE.out]; exact HI2.out.putS HLN.out hB0 hgS hMne k (-x)⟩
        case measure => simp [intOf]; omega
    · obtain rfl : ns = k := by omega
      obtain ⟨wO, hwO⟩ : ∃ wO : World, wO = wr := ⟨_, rfl⟩
      subst hwO
      have HI1 := Lib.hid hI
      clear c0
      have cd1 := (hI.below.cell (p := ⟨w.heap.size, 1, none⟩) dlt).trans HD.out.2.1
      clear hI hkn hk
      go_wp2
      go_loopw [10, 11, 35] (fun _ _ i wr => ∃ j : Nat, j ≤ nm ∧ i = .int .i64 j ∧ MvI w0 wr gr gm BB ns nm c1 m1 A1 B1 lp (fpK P s ns) (mvK T m j)) (fun _ _ i _ => nm - (intOf i).toNat)
      case atStart => exact ⟨0, by omega, rfl, HI1.out⟩
      case round =>
        obtain ⟨j, hj, rfl, hI⟩ := hrel
        have hj0 : (0 : Int) ≤ (j : Int) := Int.natCast_nonneg _
        by_cases hjn : j < nm
        · have hj1 : (j : Int) < (nm : Int) := by omega
          have hbw : Below w.heap.size w wr := below_step HB0.out hI.below
          obtain ⟨b, off, rfl, hb, hc⟩ := HM.out.2 (by omega)
          have hcell := (hbw.cell (p := ⟨b, off + j, none⟩) hb).trans (hc j hjn)
          obtain ⟨hm1, hm2⟩ := HMV.out j hjn
          unfold mt at hm1
          rw [hm1] at hcell
          obtain ⟨gM, pc, hsl⟩ := hI.m.form_pos (show (mvK T m j).length = nm from by rw [mvK_length]; exact HLM.out) (by omega)
          injection hsl with e1 e2 e3
          subst e1; subst e3
          clear e2
          have hgM := HML.out gM rfl
          have ht1 := HTL.out j hjn
          have hwd : Below w.heap.size w wr.drew := hbw.drew
          have C1 := Lib.hid (HAT.out wr.drew j hwd hjn)
          have C2 : Hid (∀ W, Below w.heap.size w W → Calls Try.prog fT (#[.int .i64 ((matesOf m j : Nat) : Int)] ++ cT) W fun e W' => e = .returned (.int .i64 (T (matesOf m j) : Nat)) ∧ Below W.heap.size W W') := Lib.hid fun W h => HAT.out W _ h hm2
          have HWD := Lib.hid hwd
          have HI := Lib.hid hI
          have HE : Hid (mvK T m (j + 1) = (mvK T m j).set (T j) (T (matesOf m j) : Nat)) := Lib.hid rfl
          have hlen : (mvK T m j).length = nm := by rw [mvK_length]; exact HLM.out
          have HLN := Lib.hid hlen
          obtain ⟨a, ha⟩ : ∃ a, matesOf m j = a := ⟨_, rfl⟩
          rw [ha] at hcell C2 HE hm2
          obtain ⟨t, ht⟩ : ∃ t, T j = t := ⟨_, rfl⟩
          rw [ht] at C1 HE ht1
          obtain ⟨y, hy⟩ : ∃ y, T a = y := ⟨_, rfl⟩
          rw [hy] at C2 HE
          have t0 : (0 : Int) ≤ (t : Int) := Int.natCast_nonneg _
          have t1 : (t : Int) < (nm : Int) := by omega
          have q1 := hI.box.2.1
          have hgmlt := hI.box.2.2.2
          have hbD : Below wr.heap.size wr wr.drew := (Below.refl _ _).drew
          clear hI hc hbw hm1 ha ht hy hlen hwd
          go_wp2
          go_region_held3 (fun w' => w'.cell? ⟨gm, 1, none⟩ = some (.slice (some ⟨gM, 0, none⟩) nm m1))
            (first | go_keep | exact q1 | exact (hb2.cell (p := ⟨gm, 1, none⟩) hgmlt).trans q1 | exact (hb3.cell (p := ⟨gm, 1, none⟩) hgmlt).trans q1 | exact (World.cell?_setCell_other _ _ _ _ (by first | (simp; done) | (simp; omega))).trans ((hb3.cell (p := ⟨gm, 1, none⟩) hgmlt).trans q1))
            (first
              | ((with_reducible refine C1.out.mono ?_); rintro e w2 ⟨rfl, hb2'⟩; have hb2 := below_step hbD hb2')
              | ((with_reducible refine (C2.out _ (below_step HWD.out hb2')).mono ?_); rintro e w3 ⟨rfl, hb3'⟩; have hb3 := below_step hb2 hb3'; have HI2 := Lib.hid (HI.out.keep hb3); have qc := HI2.out.m.cell t (by rw [HLN.out]; exact ht1); have qf : w3.frozen? ⟨gM, t, none⟩ = false := (by have := HI2.out.m; unfold OI at this; rw [HLN.out] at this; exact World.ownsRow.frozenAt this t)))
          go_wp2
          go_roundw
          case rel => exact ⟨j + 1, by omega, by go_num, by rw [HE.out]; exact HI2.out.putM HLN.out hB0 hgM HNE.out t y⟩
          case measure => simp [intOf]; omega
        · obtain rfl : nm = j := by omega
          have hrb := HRB.out.keep hI.below
          obtain ⟨r0, r1, r2, rlt⟩ := hrb
          have f0 := (hI.below.frozen (p := ⟨gr, 0, none⟩) HGR.out.2).trans (HRF.out 0)
          have f1 := (hI.below.frozen (p := ⟨gr, 1, none⟩) HGR.out.2).trans (HRF.out 1)
          have f2 := (hI.below.frozen (p := ⟨gr, 2, none⟩) HGR.out.2).trans (HRF.out 2)
          obtain ⟨y0, y1, y2, ylt⟩ := hI.box
          obtain ⟨k0, k1, k2⟩ := set3_cells wr gr (.slice A1 ns c1) (.slice B1 nm m1) (.int .i64 lp) r0 r1 r2
          have HF : Hid (MvPost w ns nm lp (fpK P s ns) (mvK T m nm) (.returned (dval A1 ns c1 B1 nm m1 lp)) (set3 wr gr (.slice A1 ns c1) (.slice B1 nm m1) (.int .i64 lp))) := Lib.hid (by
            have hg := HGR.out
            refine ⟨_, _, _, _, rfl, (hI.s.set3 (fun e => ?_) _ _ _).mono (by omega), (hI.m.set3 (fun e => ?_) _ _ _).mono (by omega), set3_below (below_step HB0.out hI.below) (by omega) _ _ _⟩
            · have := HSL.out gr e; omega
            · have := HML.out gr e; omega)
          clear hI
          go_wp2
          exact bodyPost_ret (v := dval A1 ns c1 B1 nm m1 lp) (by simp [results, Try.results43, go_sem, k0, k1, k2]) rfl HF.out

end Go.Proofs.Ytdamfoobnbjojaa

/- Walks: switched; Mirror, Reflect, Reverse. -/
namespace Go.Proofs.Ytdamfoobnbjojaa
open Go.RowKit

theorem Asks.keep {w w' : World} {fid : FuncId} {caps : Array Value} {p : Nat → Bool} {N : Nat} (h : Asks w fid caps p N) (hb : Below w.heap.size w w') : Asks w' fid caps p N := fun W x hW hx => h W x (below_step hb hW) hx
theorem enters_every : Enters 40 := fun _ _ => by kernel_rfl
theorem enters_behind : Enters 41 := fun _ _ => by kernel_rfl
theorem enters_none : Enters 44 := fun _ _ => by kernel_rfl
theorem enters_opp : Enters 45 := fun _ _ => by kernel_rfl
theorem enters_sw : Enters 76 := fun _ _ => by kernel_rfl
theorem asks_every (w : World) (N : Nat) : Asks w 40 #[] (fun _ => true) N := fun W x _ _ => by
  show Calls Try.prog 40 #[.int .i64 (x : Nat)] W _
  go_enter Try.func40, Try.ntmps40
  go_wp2
  go_ret
  exact ⟨rfl, Below.refl _ _⟩
theorem asks_none (w : World) (N : Nat) : Asks w 44 #[] (fun _ => false) N := fun W x _ _ => by
  show Calls Try.prog 44 #[.int .i64 (x : Nat)] W _
  go_enter Try.func44, Try.ntmps44
  go_wp2
  go_ret
  exact ⟨rfl, Below.refl _ _⟩
theorem turn_trn (h s : Nat) (hs : s < 4) : turnI (h : Int) (s : Int) = (trn h s : Nat) := by
  unfold turnI trn
  have : (s : Int).tmod 4 = (s : Int) := Int.tmod_eq_of_lt (by omega) (by omega)
  rw [if_neg (by omega), this]; omega
theorem goes_opp (w : World) (N : Nat) (hN : N ≤ 1000) : Goes w 45 #[] (rot fun _ => 2) N := fun W x _ hx => by
  show Calls Try.prog 45 #[.int .i64 (x : Nat)] W _
  refine (opposite_any x W (by omega) (by omega)).mono ?_
  rintro e w' ⟨rfl, rfl⟩
  exact ⟨by have := turn_trn x 2 (by omega); rw [show ((2 : Nat) : Int) = 2 from rfl] at this; rw [this]; rfl, Below.refl _ _⟩
theorem refl_turn (x : Nat) : turnI (x : Int) (-2 * ((x : Int) % 4)) = (rfl4 x : Nat) := by
  unfold turnI rfl4
  rw [if_neg (by omega)]
  have h : (x : Int) % 4 = 0 ∨ (x : Int) % 4 = 1 ∨ (x : Int) % 4 = 2 ∨ (x : Int) % 4 = 3 := by omega
  rcases h with h | h | h | h
  · rw [h, show ((-2 : Int) * 0).tmod 4 = 0 from rfl]; omega
  · rw [h, show ((-2 : Int) * 1).tmod 4 = -2 from rfl]; omega
  · rw [h, show ((-2 : Int) * 2).tmod 4 = 0 from rfl]; omega
  · rw [h, show ((-2 : Int) * 3).tmod 4 = -2 from rfl]; omega
theorem goes_behind (w : World) (N : Nat) (hN : N ≤ 1000) : Goes w 41 #[] rfl4 N := fun W x _ hx => by
  show Calls Try.prog 41 #[.int .i64 (x : Nat)] W _
  obtain ⟨r, hr⟩ : ∃ r : Nat, (x : Int) % 4 = (r : Int) := ⟨x % 4, by omega⟩
  have r0 : (0 : Int) ≤ (r : Int) := Int.natCast_nonneg _
  have r1 : (r : Int) < 4 := by omega
  have x0 : (0 : Int) ≤ (x : Int) := Int.natCast_nonneg _
  have x1 : (x : Int) ≤ 1000 := by omega
  have hw : IntKind.i64.wrap (-2 * (r : Int)) = -2 * (r : Int) := IntWalk.i64_in _ (by omega)
  have C := Lib.hid (turn_any x (-2 * (r : Int)) W (by omega) (by omega) (by omega) (by omega))
  have ht := refl_turn x
  rw [hr] at ht
  have HT := Lib.hid ht
  clear ht
  go_enter Try.func41, Try.ntmps41
  go_wp2_with (go_at_call 42; ((with_reducible refine C.out.mono ?_); rintro e w' ⟨rfl, rfl⟩))
  go_ret
  exact ⟨ret_int HT.out, Below.refl _ _⟩

/-- An empty box. -/
def Bx0 (w : World) (g : Nat) : Prop := DB w g none 0 0 none 0 0 0 ∧ ∀ i, w.frozen? ⟨g, i, none⟩ = false
theorem Bx0.kp {w w' : World} {g : Nat} (h : Bx0 w g) (hb : Below w.heap.size w w') : Bx0 w' g := ⟨h.1.keep hb, fun i => (hb.frozen (p := ⟨g, i, none⟩) h.1.2.2.2).trans (h.2 i)⟩
theorem bx0_new (w : World) : Bx0 (w.alloc (.cells #[.slice none 0 0, .slice none 0 0, .int .i64 0] 24)) w.heap.size :=
  ⟨DB.new w none 0 0 none 0 0 0, fun _i => World.frozen?_alloc_at _ _ _ _ rfl⟩
/-- What a valid diagram's lists are. -/
theorem valid_data {s m : List Int} {lp : Int} {ns nm : Nat} (hv : validB s m lp = true) (hs : s.length = ns) (hm : m.length = nm) : nm = 4 * ns ∧ ns ≤ 64 ∧ (∀ h, h < nm → mt m h = (matesOf m h : Nat) ∧ matesOf m h < nm) ∧ (∀ i, i < ns → s.getD i 0 = 1 ∨ s.getD i 0 = -1) ∧ 0 ≤ lp ∧ lp ≤ 64 := by
  obtain ⟨v1, v2, v3, _⟩ := validB_out hv
  obtain ⟨l1, l2, l3, l4⟩ := limB_out v1
  exact ⟨by omega, by omega, matesOf_mates v3 hm, fun i hi => sg_or v2 (by omega), l3, l4⟩

set_option maxHeartbeats 3200000 in
set_option maxRecDepth 100000 in
theorem switched_any (fP : FuncId) (cP : Array Value) (P : Nat → Bool) (A B : Option Addr) (ns cs nm cm : Nat) (lp : Int) (s m : List Int) (w : World) (hs : RI w A ns s) (hm : RI w B nm m) (hv : validB s m lp = true) (eP : Enters fP) (aP : Asks w fP cP P ns) :
    Calls Try.prog 39 #[dval A ns cs B nm cm lp, .func (.func fP) #[] cP] w (MvPost w ns nm lp (fpK P s ns) (mvK (rot fun c => if P c = true then swQ s c else 0) m nm)) := by
  obtain ⟨hnm, hns, hM, hS, _, _⟩ := valid_data hv hs.1 hm.1
  have hmf : ∀ (fn : Fn) (first cap : Array Value) (w : World), (Instr.makeFunc fn first cap).run Try.prog w = .ok (.func fn first cap) w := fun _ _ _ _ => rfl
  have hb1 := below_alloc w (dbox A ns cs B nm cm lp)
  have hb2 := below_alloc (w.alloc (dbox A ns cs B nm cm lp)) (.cells #[.func (.func fP) #[] cP] 49)
  have hb3 := below_alloc ((w.alloc (dbox A ns cs B nm cm lp)).alloc (.cells #[.func (.func fP) #[] cP] 49)) (.cells #[.slice none 0 0, .slice none 0 0, .int .i64 0] 24)
  have hd := ((DB.new w A ns cs B nm cm lp).keep hb2).keep hb3
  have hbx := bx0_new ((w.alloc (dbox A ns cs B nm cm lp)).alloc (.cells #[.func (.func fP) #[] cP] 49))
  have hfc : ((w.alloc (dbox A ns cs B nm cm lp)).alloc (.cells #[.func (.func fP) #[] cP] 49)).cell? ⟨w.heap.size + 1, 0, none⟩ = some (.func (.func fP) #[] cP) := by
    rw [show w.heap.size + 1 = (w.alloc (dbox A ns cs B nm cm lp)).heap.size by simp, World.cell?_alloc_at _ _ _ _ rfl]; rfl
  have hfc2 := (hb3.cell (p := ⟨w.heap.size + 1, 0, none⟩) (by simp)).trans hfc
  have hb := below_step (below_step hb1 hb2) hb3
  have hsz : ((w.alloc (dbox A ns cs B nm cm lp)).alloc (.cells #[.func (.func fP) #[] cP] 49)).heap.size = w.heap.size + 2 := by simp
  rw [hsz] at hbx
  have hsz3 : (((w.alloc (dbox A ns cs B nm cm lp)).alloc (.cells #[.func (.func fP) #[] cP] 49)).alloc (.cells #[.slice none 0 0, .slice none 0 0, .int .i64 0] 24)).heap.size = w.heap.size + 3 := by simp
  clear hb1 hb2 hb3 hfc hsz
  have HS := Lib.hid hs
  have HM := Lib.hid hm
  have HSV := Lib.hid hS
  have HMV := Lib.hid hM
  have HNM := Lib.hid hnm
  have HAP := Lib.hid aP
  have HEP := Lib.hid eP
  clear hs hm hS hM hnm aP eP hv
  unfold dbox at hd hbx hfc2 hb hsz3
  go_enter Try.func39, Try.ntmps39
  go_upto_region 1 with fail
  generalize ((w.alloc (.cells #[.slice A ns cs, .slice B nm cm, .int .i64 lp] 24)).alloc (.cells #[.func (.func fP) #[] cP] 49)).alloc (.cells #[.slice none 0 0, .slice none 0 0, .int .i64 0] 24) = w0 at hd hbx hfc2 hb hsz3 ⊢
  rw [show w.heap.size + 1 + 1 = w.heap.size + 2 by omega]
  obtain ⟨gf, hgf⟩ : ∃ gf, w.heap.size + 1 = gf := ⟨_, rfl⟩
  obtain ⟨gr, hgr⟩ : ∃ gr, w.heap.size + 2 = gr := ⟨_, rfl⟩
  rw [hgf] at hfc2 ⊢
  rw [hgr] at hbx ⊢
  have HD := Lib.hid hd
  have HBX := Lib.hid hbx
  have HB := Lib.hid hb
  have HFC := Lib.hid hfc2
  have HLT : Hid (gf < w0.heap.size ∧ w.heap.size ≤ gr ∧ gr < w0.heap.size) := Lib.hid ⟨by omega, by omega, by omega⟩
  have AT : Hid (Goes w0 76 #[.pointer (some ⟨gf, 0, none⟩), .pointer (some ⟨w.heap.size, 0, none⟩)] (rot fun c => if P c = true then swQ s c else 0) nm) := Lib.hid (fun W x hW hx => by
    have hns := hns
    clear hd hbx hb hgf hgr hsz3 hfc2
    show Calls Try.prog 76 #[.int .i64 (x : Nat), .pointer (some ⟨gf, 0, none⟩), .pointer (some ⟨w.heap.size, 0, none⟩)] W _
    have hf := (hW.cell (p := ⟨gf, 0, none⟩) HLT.out.1).trans HFC.out
    obtain ⟨d0, d1, d2, dlt⟩ := HD.out.keep hW
    have hx4 : x / 4 < ns := by have := HNM.out; omega
    obtain ⟨q, hq⟩ : ∃ q : Nat, x / 4 = q := ⟨_, rfl⟩
    rw [hq] at hx4
    have hqi : (x : Int) / 4 = (q : Int) := by omega
    have x0 : (0 : Int) ≤ (x : Int) := Int.natCast_nonneg _
    have x1 : (x : Int) ≤ 1000 := by have := HNM.out; omega
    have q0 : (0 : Int) ≤ (q : Int) := Int.natCast_nonneg _
    have q1 : (q : Int) < (ns : Int) := by omega
    have hcf : ∀ (args : Array Value) (W : World), (callFunc fP args).run Try.prog W = .ok (.enter fP args) W := HEP.out
    have hbW := below_step HB.out hW
    have CP := Lib.hid (HAP.out W q hbW hx4)
    have hsv := HSV.out q hx4
    obtain ⟨b, off, rfl, hb, hc⟩ := HS.out.2 (by omega)
    have hcell := (hbW.cell (p := ⟨b, off + q, none⟩) hb).trans (hc q hx4)
    obtain ⟨sg, hsg⟩ : ∃ sg, s.getD q 0 = sg := ⟨_, rfl⟩
    rw [hsg] at hcell hsv
    cases hP : P q with
    | false =>
      rw [hP] at CP
      have HE : Hid ((rot (fun c => if P c = true then swQ s c else 0) x : Nat) = x) := Lib.hid (by
        unfold rot trn
        show x - x % 4 + (x % 4 + (if P (x / 4) = true then swQ s (x / 4) else 0)) % 4 = x
        rw [hq, hP]; simp; omega)
      clear hc hbW hsv hsg hP hq
      go_enter Try.func76, Try.ntmps76
      go_wp2_with ((with_reducible refine CP.out.mono ?_); rintro e w1 ⟨rfl, hb1⟩)
      go_ret
      exact ⟨by rw [HE.out]; rfl, hb1⟩
    | true =>
      rw [hP] at CP
      have HE : Hid (turnI (x : Int) sg = ((rot (fun c => if P c = true then swQ s c else 0) x : Nat) : Int)) := Lib.hid (by
        unfold rot turnI trn
        show _ = ((x - x % 4 + (x % 4 + (if P (x / 4) = true then swQ s (x / 4) else 0)) % 4 : Nat) : Int)
        unfold swQ
        rw [hq, hP, hsg, if_neg (by omega)]
        rcases hsv with e | e <;> rw [e]
        · rw [show (1 : Int).tmod 4 = 1 from rfl]; simp; omega
        · rw [show (-1 : Int).tmod 4 = -1 from rfl]; simp; omega)
      have hsl : -1 ≤ sg ∧ sg ≤ 1 := by omega
      have CT : ∀ W1, Hid (Calls Try.prog 42 #[.int .i64 (x : Int), .int .i64 sg] W1 fun e w' => e = .returned (.int .i64 (turnI x sg)) ∧ W1 = w') := fun W1 => Lib.hid (turn_any x sg W1 (by omega) (by omega) (by omega) (by omega))
      clear hc hbW hsv hsg hP hq
      go_enter Try.func76, Try.ntmps76
      go_wp2_with (first
        | (go_at_call 42; ((with_reducible refine (CT _).out.mono ?_); rintro e w2 ⟨rfl, rfl⟩))
        | ((with_reducible refine CP.out.mono ?_); rintro e w1 ⟨rfl, hb1⟩; have y0 := (hb1.cell (p := ⟨w.heap.size, 0, none⟩) dlt).trans d0; have y1 := (hb1.cell (p := ⟨b, off + q, none⟩) (Nat.lt_of_lt_of_le hb (below_step HB.out hW).size)).trans hcell))
      go_ret
      exact ⟨ret_int HE.out, hb1⟩)
  obtain ⟨d0, d1, d2, dlt⟩ := hd
  have CM := Lib.hid (moved_any fP 76 cP #[.pointer (some ⟨gf, 0, none⟩), .pointer (some ⟨w.heap.size, 0, none⟩)] P (rot fun c => if P c = true then swQ s c else 0) A B ns cs nm cm lp s m w0 (HS.out.keep hb) (HM.out.keep hb) HNM.out hns HMV.out HSV.out HEP.out enters_sw (HAP.out.keep hb) AT.out
    (fun x hx => by have := HNM.out; rw [this] at hx ⊢; exact (rot_perm _ ns).lt x hx))
  clear hb hbx hgf hgr hsz3
  go_wp2_with (go_at_call 43; ((with_reducible refine CM.out.mono ?_); rintro e w1 ⟨A1, c1, B1, m1, rfl, oS, oM, hb1⟩; have hr := HBX.out.kp hb1; have r0 := hr.1.1; have r1 := hr.1.2.1; have r2 := hr.1.2.2.1; have f0 := hr.2 0; have f1 := hr.2 1; have f2 := hr.2 2))
  obtain ⟨k0, k1, k2⟩ := set3_cells w1 gr (.slice A1 ns c1) (.slice B1 nm m1) (.int .i64 lp) r0 r1 r2
  have HF : Hid (MvPost w ns nm lp (fpK P s ns) (mvK (rot fun c => if P c = true then swQ s c else 0) m nm) (.returned (dval A1 ns c1 B1 nm m1 lp)) (set3 w1 gr (.slice A1 ns c1) (.slice B1 nm m1) (.int .i64 lp))) := Lib.hid (by
    have hg := HLT.out
    exact ⟨_, _, _, _, rfl, (oS.set3 (fun e => by have := World.ownsRow.lt oS _ e; omega) _ _ _).mono HB.out.size, (oM.set3 (fun e => by have := World.ownsRow.lt oM _ e; omega) _ _ _).mono HB.out.size, set3_below (below_step HB.out hb1) hg.2.1 _ _ _⟩)
  exact bodyPost_ret (v := dval A1 ns c1 B1 nm m1 lp) (by simp [results, Try.results39, go_sem, k0, k1, k2]) rfl HF.out

end Go.Proofs.Ytdamfoobnbjojaa

/- Walks: Mirror, Reflect, Reverse. -/
namespace Go.Proofs.Ytdamfoobnbjojaa
open Go.RowKit

/-- The operation has been carried out. -/
def OpYes (w : World) (ns nm : Nat) (lp : Int) (s m : List Int) (kd k : Nat) (e : Ending) (w' : World) : Prop :=
  ∃ A cs B cm s' m', e = .returned (.tuple #[dval A ns cs B nm cm lp, .int .i64 0]) ∧ OI w' w.heap.size (.slice A ns cs) s' ∧ OI w' w.heap.size (.slice B nm cm) m' ∧ Moved (opT kd k s) (opP kd k) ns s m s' m' ∧ Below w.heap.size w w'
/-- It has been refused. -/
def OpNo (w : World) (c : Int) (e : Ending) (w' : World) : Prop := e = .returned (.tuple #[dval none 0 0 none 0 0 0, .int .i64 c]) ∧ Below w.heap.size w w'
theorem moved_op {kd k ns nm : Nat} {s m : List Int} (hs : s.length = ns) (hm : m.length = nm) (hnm : nm = 4 * ns) (T : Nat → Nat) (P : Nat → Bool) (eT : T = opT kd k s) (eP : ∀ c, P c = opP kd k c) : Moved (opT kd k s) (opP kd k) ns s m (fpK P s ns) (mvK T m nm) := by
  subst hnm
  have e : P = opP kd k := funext eP
  rw [eT, e]
  exact moved_of _ _ hs hm (op_place _ _ _ _)

set_option maxHeartbeats 1600000 in
set_option maxRecDepth 100000 in
theorem mirror_yes (A B : Option Addr) (ns cs nm cm : Nat) (lp : Int) (s m : List Int) (w : World) (h : DV w A ns B nm s m) (hv : validB s m lp = true) :
    Calls Try.prog 13 #[dval A ns cs B nm cm lp] w (OpYes w ns nm lp s m 0 0) := by
  obtain ⟨hnm, hns, hM, hS, _, _⟩ := valid_data hv h.hs.1 h.hm.1
  have hb1 := below_alloc w (dbox A ns cs B nm cm lp)
  have hb2 := below_alloc (w.alloc (dbox A ns cs B nm cm lp)) (.cells #[.slice none 0 0, .slice none 0 0, .int .i64 0] 24)
  have hd := (DB.new w A ns cs B nm cm lp).keep hb2
  have hbx := bx0_new (w.alloc (dbox A ns cs B nm cm lp))
  have hb := below_step hb1 hb2
  have hsz : (w.alloc (dbox A ns cs B nm cm lp)).heap.size = w.heap.size + 1 := by simp
  rw [hsz] at hbx
  have hsz2 : ((w.alloc (dbox A ns cs B nm cm lp)).alloc (.cells #[.slice none 0 0, .slice none 0 0, .int .i64 0] 24)).heap.size = w.heap.size + 2 := by simp
  have HH := Lib.hid h
  have HV := Lib.hid hv
  have HSV := Lib.hid hS
  have HMV := Lib.hid hM
  have HNM := Lib.hid hnm
  clear hb1 hb2 h hv hS hM hnm hsz
  unfold dbox at hd hbx hb hsz2
  go_enter Try.func13, Try.ntmps13
  go_upto_region 1 with fail
  generalize (w.alloc (.cells #[.slice A ns cs, .slice B nm cm, .int .i64 lp] 24)).alloc (.cells #[.slice none 0 0, .slice none 0 0, .int .i64 0] 24) = w0 at hd hbx hb hsz2 ⊢
  obtain ⟨gr, hgr⟩ : ∃ gr, w.heap.size + 1 = gr := ⟨_, rfl⟩
  rw [hgr] at hbx ⊢
  have HD := Lib.hid hd
  have HBX := Lib.hid hbx
  have HB := Lib.hid hb
  have HLT : Hid (w.heap.size ≤ gr ∧ gr < w0.heap.size) := Lib.hid ⟨by omega, by omega⟩
  obtain ⟨d0, d1, d2, dlt⟩ := hd
  have CV := Lib.hid ((HH.out.keep hb).valid cs cm lp true HV.out)
  have CM : ∀ W, Below w.heap.size w W → Hid (Calls Try.prog 39 #[dval A ns cs B nm cm lp, .func (.func 40) #[] #[]] W (MvPost W ns nm lp (fpK (fun _ => true) s ns) (mvK (rot fun c => if (fun _ => true) c = true then swQ s c else 0) m nm))) := fun W hW => Lib.hid (switched_any 40 #[] (fun _ => true) A B ns cs nm cm lp s m W (HH.out.hs.keep hW) (HH.out.hm.keep hW) HV.out enters_every (asks_every W ns))
  have HMO := Lib.hid (moved_op (kd := 0) (k := 0) HH.out.hs.1 HH.out.hm.1 HNM.out (rot fun c => if (fun _ => true) c = true then swQ s c else 0) (fun _ => true) (by unfold opT; simp) (fun _ => rfl))
  clear hb hbx hgr hsz2
  go_wp2_with (first
    | (go_at_call 29; ((with_reducible refine CV.out.mono ?_); rintro e w1 ⟨rfl, hb1⟩; have x0 := (hb1.cell (p := ⟨w.heap.size, 0, none⟩) dlt).trans d0; have x1 := (hb1.cell (p := ⟨w.heap.size, 1, none⟩) dlt).trans d1; have x2 := (hb1.cell (p := ⟨w.heap.size, 2, none⟩) dlt).trans d2))
    | (go_at_call 39; ((with_reducible refine (CM _ (below_step HB.out hb1)).out.mono ?_); rintro e w2 ⟨A1, c1, B1, m1, rfl, oS, oM, hb2⟩; have hr := HBX.out.kp (below_step hb1 hb2); have r0 := hr.1.1; have r1 := hr.1.2.1; have r2 := hr.1.2.2.1; have f0 := hr.2 0; have f1 := hr.2 1; have f2 := hr.2 2)))
  obtain ⟨k0, k1, k2⟩ := set3_cells w2 gr (.slice A1 ns c1) (.slice B1 nm m1) (.int .i64 lp) r0 r1 r2
  have HF : Hid (OpYes w ns nm lp s m 0 0 (.returned (.tuple #[dval A1 ns c1 B1 nm m1 lp, .int .i64 0])) (set3 w2 gr (.slice A1 ns c1) (.slice B1 nm m1) (.int .i64 lp))) := Lib.hid (by
    have hg := HLT.out
    have h1 := hb1.size
    have h0 := HB.out.size
    exact ⟨_, _, _, _, _, _, rfl, (oS.set3 (fun e => by have := World.ownsRow.lt oS _ e; omega) _ _ _).mono (by omega), (oM.set3 (fun e => by have := World.ownsRow.lt oM _ e; omega) _ _ _).mono (by omega), HMO.out, set3_below (below_step HB.out (below_step hb1 hb2)) hg.1 _ _ _⟩)
  exact bodyPost_ret (v := .tuple #[dval A1 ns c1 B1 nm m1 lp, .int .i64 0]) (by simp [results, Try.results13, go_sem, k0, k1, k2]) rfl HF.out
set_option maxHeartbeats 1600000 in
theorem mirror_no (A B : Option Addr) (ns cs nm cm : Nat) (lp : Int) (s m : List Int) (w : World) (h : DV w A ns B nm s m) (hv : validB s m lp = false) :
    Calls Try.prog 13 #[dval A ns cs B nm cm lp] w (OpNo w 1) := by
  have hb1 := below_alloc w (dbox A ns cs B nm cm lp)
  have hb2 := below_alloc (w.alloc (dbox A ns cs B nm cm lp)) (.cells #[.slice none 0 0, .slice none 0 0, .int .i64 0] 24)
  have hd := (DB.new w A ns cs B nm cm lp).keep hb2
  have hbx := bx0_new (w.alloc (dbox A ns cs B nm cm lp))
  have hb := below_step hb1 hb2
  have hsz : (w.alloc (dbox A ns cs B nm cm lp)).heap.size = w.heap.size + 1 := by simp
  rw [hsz] at hbx
  have HH := Lib.hid h
  have HV := Lib.hid hv
  clear hb1 hb2 h hv hsz
  unfold dbox at hd hbx hb
  go_enter Try.func13, Try.ntmps13
  go_upto_region 1 with fail
  generalize (w.alloc (.cells #[.slice A ns cs, .slice B nm cm, .int .i64 lp] 24)).alloc (.cells #[.slice none 0 0, .slice none 0 0, .int .i64 0] 24) = w0 at hd hbx hb ⊢
  obtain ⟨gr, hgr⟩ : ∃ gr, w.heap.size + 1 = gr := ⟨_, rfl⟩
  rw [hgr] at hbx ⊢
  have hwg : w.heap.size ≤ gr := by omega
  have HBX := Lib.hid hbx
  have HB := Lib.hid hb
  obtain ⟨d0, d1, d2, dlt⟩ := hd
  have CV := Lib.hid ((HH.out.keep hb).valid cs cm lp false HV.out)
  clear hb hbx hgr
  go_wp2_with (go_at_call 29; ((with_reducible refine CV.out.mono ?_); rintro e w1 ⟨rfl, hb1⟩; have hr := HBX.out.kp hb1; have r0 := hr.1.1; have r1 := hr.1.2.1; have r2 := hr.1.2.2.1; have f0 := hr.2 0; have f1 := hr.2 1; have f2 := hr.2 2))
  obtain ⟨k0, k1, k2⟩ := set3_cells w1 gr (.slice none 0 0) (.slice none 0 0) (.int .i64 0) r0 r1 r2
  have HF : Hid (OpNo w 1 (.returned (.tuple #[dval none 0 0 none 0 0 0, .int .i64 1])) (set3 w1 gr (.slice none 0 0) (.slice none 0 0) (.int .i64 0))) := Lib.hid ⟨rfl, set3_below (below_step HB.out hb1) hwg _ _ _⟩
  exact bodyPost_ret (v := .tuple #[dval none 0 0 none 0 0 0, .int .i64 1]) (by simp [results, Try.results13, go_sem, k0, k1, k2]) rfl HF.out

set_option maxHeartbeats 1600000 in
set_option maxRecDepth 100000 in
theorem reflect_yes (A B : Option Addr) (ns cs nm cm : Nat) (lp : Int) (s m : List Int) (w : World) (h : DV w A ns B nm s m) (hv : validB s m lp = true) :
    Calls Try.prog 14 #[dval A ns cs B nm cm lp] w (OpYes w ns nm lp s m 1 0) := by
  obtain ⟨hnm, hns, hM, hS, _, _⟩ := valid_data hv h.hs.1 h.hm.1
  have hb1 := below_alloc w (dbox A ns cs B nm cm lp)
  have hb2 := below_alloc (w.alloc (dbox A ns cs B nm cm lp)) (.cells #[.slice none 0 0, .slice none 0 0, .int .i64 0] 24)
  have hd := (DB.new w A ns cs B nm cm lp).keep hb2
  have hbx := bx0_new (w.alloc (dbox A ns cs B nm cm lp))
  have hb := below_step hb1 hb2
  have hsz : (w.alloc (dbox A ns cs B nm cm lp)).heap.size = w.heap.size + 1 := by simp
  rw [hsz] at hbx
  have hsz2 : ((w.alloc (dbox A ns cs B nm cm lp)).alloc (.cells #[.slice none 0 0, .slice none 0 0, .int .i64 0] 24)).heap.size = w.heap.size + 2 := by simp
  have HH := Lib.hid h
  have HV := Lib.hid hv
  have HSV := Lib.hid hS
  have HMV := Lib.hid hM
  have HNM := Lib.hid hnm
  clear hb1 hb2 h hv hS hM hnm hsz
  unfold dbox at hd hbx hb hsz2
  go_enter Try.func14, Try.ntmps14
  go_upto_region 1 with fail
  generalize (w.alloc (.cells #[.slice A ns cs, .slice B nm cm, .int .i64 lp] 24)).alloc (.cells #[.slice none 0 0, .slice none 0 0, .int .i64 0] 24) = w0 at hd hbx hb hsz2 ⊢
  obtain ⟨gr, hgr⟩ : ∃ gr, w.heap.size + 1 = gr := ⟨_, rfl⟩
  rw [hgr] at hbx ⊢
  have HD := Lib.hid hd
  have HBX := Lib.hid hbx
  have HB := Lib.hid hb
  have HLT : Hid (w.heap.size ≤ gr ∧ gr < w0.heap.size) := Lib.hid ⟨by omega, by omega⟩
  obtain ⟨d0, d1, d2, dlt⟩ := hd
  have CV := Lib.hid ((HH.out.keep hb).valid cs cm lp true HV.out)
  have CM : ∀ W, Below w.heap.size w W → Hid (Calls Try.prog 43 #[dval A ns cs B nm cm lp, .func (.func 40) #[] #[], .func (.func 41) #[] #[]] W (MvPost W ns nm lp (fpK (fun _ => true) s ns) (mvK rfl4 m nm))) := fun W hW => Lib.hid (moved_any 40 41 #[] #[] (fun _ => true) (rfl4) A B ns cs nm cm lp s m W (HH.out.hs.keep hW) (HH.out.hm.keep hW) HNM.out hns HMV.out HSV.out enters_every enters_behind (asks_every W ns) (goes_behind W nm (by have := HNM.out; omega)) (fun x hx => by have := HNM.out; rw [this] at hx ⊢; exact (rfl4_perm ns).lt x hx))
  have HMO := Lib.hid (moved_op (kd := 1) (k := 0) HH.out.hs.1 HH.out.hm.1 HNM.out rfl4 (fun _ => true) (by unfold opT; simp) (fun _ => rfl))
  clear hb hbx hgr hsz2
  go_wp2_with (first
    | (go_at_call 29; ((with_reducible refine CV.out.mono ?_); rintro e w1 ⟨rfl, hb1⟩; have x0 := (hb1.cell (p := ⟨w.heap.size, 0, none⟩) dlt).trans d0; have x1 := (hb1.cell (p := ⟨w.heap.size, 1, none⟩) dlt).trans d1; have x2 := (hb1.cell (p := ⟨w.heap.size, 2, none⟩) dlt).trans d2))
    | (go_at_call 43; ((with_reducible refine (CM _ (below_step HB.out hb1)).out.mono ?_); rintro e w2 ⟨A1, c1, B1, m1, rfl, oS, oM, hb2⟩; have hr := HBX.out.kp (below_step hb1 hb2); have r0 := hr.1.1; have r1 := hr.1.2.1; have r2 := hr.1.2.2.1; have f0 := hr.2 0; have f1 := hr.2 1; have f2 := hr.2 2)))
  obtain ⟨k0, k1, k2⟩ := set3_cells w2 gr (.slice A1 ns c1) (.slice B1 nm m1) (.int .i64 lp) r0 r1 r2
  have HF : Hid (OpYes w ns nm lp s m 1 0 (.returned (.tuple #[dval A1 ns c1 B1 nm m1 lp, .int .i64 0])) (set3 w2 gr (.slice A1 ns c1) (.slice B1 nm m1) (.int .i64 lp))) := Lib.hid (by
    have hg := HLT.out
    have h1 := hb1.size
    have h0 := HB.out.size
    exact ⟨_, _, _, _, _, _, rfl, (oS.set3 (fun e => by have := World.ownsRow.lt oS _ e; omega) _ _ _).mono (by omega), (oM.set3 (fun e => by have := World.ownsRow.lt oM _ e; omega) _ _ _).mono (by omega), HMO.out, set3_below (below_step HB.out (below_step hb1 hb2)) hg.1 _ _ _⟩)
  exact bodyPost_ret (v := .tuple #[dval A1 ns c1 B1 nm m1 lp, .int .i64 0]) (by simp [results, Try.results14, go_sem, k0, k1, k2]) rfl HF.out
set_option maxHeartbeats 1600000 in
theorem reflect_no (A B : Option Addr) (ns cs nm cm : Nat) (lp : Int) (s m : List Int) (w : World) (h : DV w A ns B nm s m) (hv : validB s m lp = false) :
    Calls Try.prog 14 #[dval A ns cs B nm cm lp] w (OpNo w 1) := by
  have hb1 := below_alloc w (dbox A ns cs B nm cm lp)
  have hb2 := below_alloc (w.alloc (dbox A ns cs B nm cm lp)) (.cells #[.slice none 0 0, .slice none 0 0, .int .i64 0] 24)
  have hd := (DB.new w A ns cs B nm cm lp).keep hb2
  have hbx := bx0_new (w.alloc (dbox A ns cs B nm cm lp))
  have hb := below_step hb1 hb2
  have hsz : (w.alloc (dbox A ns cs B nm cm lp)).heap.size = w.heap.size + 1 := by simp
  rw [hsz] at hbx
  have HH := Lib.hid h
  have HV := Lib.hid hv
  clear hb1 hb2 h hv hsz
  unfold dbox at hd hbx hb
  go_enter Try.func14, Try.ntmps14
  go_upto_region 1 with fail
  generalize (w.alloc (.cells #[.slice A ns cs, .slice B nm cm, .int .i64 lp] 24)).alloc (.cells #[.slice none 0 0, .slice none 0 0, .int .i64 0] 24) = w0 at hd hbx hb ⊢
  obtain ⟨gr, hgr⟩ : ∃ gr, w.heap.size + 1 = gr := ⟨_, rfl⟩
  rw [hgr] at hbx ⊢
  have hwg : w.heap.size ≤ gr := by omega
  have HBX := Lib.hid hbx
  have HB := Lib.hid hb
  obtain ⟨d0, d1, d2, dlt⟩ := hd
  have CV := Lib.hid ((HH.out.keep hb).valid cs cm lp false HV.out)
  clear hb hbx hgr
  go_wp2_with (go_at_call 29; ((with_reducible refine CV.out.mono ?_); rintro e w1 ⟨rfl, hb1⟩; have hr := HBX.out.kp hb1; have r0 := hr.1.1; have r1 := hr.1.2.1; have r2 := hr.1.2.2.1; have f0 := hr.2 0; have f1 := hr.2 1; have f2 := hr.2 2))
  obtain ⟨k0, k1, k2⟩ := set3_cells w1 gr (.slice none 0 0) (.slice none 0 0) (.int .i64 0) r0 r1 r2
  have HF : Hid (OpNo w 1 (.returned (.tuple #[dval none 0 0 none 0 0 0, .int .i64 1])) (set3 w1 gr (.slice none 0 0) (.slice none 0 0) (.int .i64 0))) := Lib.hid ⟨rfl, set3_below (below_step HB.out hb1) hwg _ _ _⟩
  exact bodyPost_ret (v := .tuple #[dval none 0 0 none 0 0 0, .int .i64 1]) (by simp [results, Try.results14, go_sem, k0, k1, k2]) rfl HF.out

set_option maxHeartbeats 1600000 in
set_option maxRecDepth 100000 in
theorem reverse_yes (A B : Option Addr) (ns cs nm cm : Nat) (lp : Int) (s m : List Int) (w : World) (h : DV w A ns B nm s m) (hv : validB s m lp = true) :
    Calls Try.prog 15 #[dval A ns cs B nm cm lp] w (OpYes w ns nm lp s m 2 0) := by
  obtain ⟨hnm, hns, hM, hS, _, _⟩ := valid_data hv h.hs.1 h.hm.1
  have hb1 := below_alloc w (dbox A ns cs B nm cm lp)
  have hb2 := below_alloc (w.alloc (dbox A ns cs B nm cm lp)) (.cells #[.slice none 0 0, .slice none 0 0, .int .i64 0] 24)
  have hd := (DB.new w A ns cs B nm cm lp).keep hb2
  have hbx := bx0_new (w.alloc (dbox A ns cs B nm cm lp))
  have hb := below_step hb1 hb2
  have hsz : (w.alloc (dbox A ns cs B nm cm lp)).heap.size = w.heap.size + 1 := by simp
  rw [hsz] at hbx
  have hsz2 : ((w.alloc (dbox A ns cs B nm cm lp)).alloc (.cells #[.slice none 0 0, .slice none 0 0, .int .i64 0] 24)).heap.size = w.heap.size + 2 := by simp
  have HH := Lib.hid h
  have HV := Lib.hid hv
  have HSV := Lib.hid hS
  have HMV := Lib.hid hM
  have HNM := Lib.hid hnm
  clear hb1 hb2 h hv hS hM hnm hsz
  unfold dbox at hd hbx hb hsz2
  go_enter Try.func15, Try.ntmps15
  go_upto_region 1 with fail
  generalize (w.alloc (.cells #[.slice A ns cs, .slice B nm cm, .int .i64 lp] 24)).alloc (.cells #[.slice none 0 0, .slice none 0 0, .int .i64 0] 24) = w0 at hd hbx hb hsz2 ⊢
  obtain ⟨gr, hgr⟩ : ∃ gr, w.heap.size + 1 = gr := ⟨_, rfl⟩
  rw [hgr] at hbx ⊢
  have HD := Lib.hid hd
  have HBX := Lib.hid hbx
  have HB := Lib.hid hb
  have HLT : Hid (w.heap.size ≤ gr ∧ gr < w0.heap.size) := Lib.hid ⟨by omega, by omega⟩
  obtain ⟨d0, d1, d2, dlt⟩ := hd
  have CV := Lib.hid ((HH.out.keep hb).valid cs cm lp true HV.out)
  have CM : ∀ W, Below w.heap.size w W → Hid (Calls Try.prog 43 #[dval A ns cs B nm cm lp, .func (.func 44) #[] #[], .func (.func 45) #[] #[]] W (MvPost W ns nm lp (fpK (fun _ => false) s ns) (mvK (rot fun _ => 2) m nm))) := fun W hW => Lib.hid (moved_any 44 45 #[] #[] (fun _ => false) (rot fun _ => 2) A B ns cs nm cm lp s m W (HH.out.hs.keep hW) (HH.out.hm.keep hW) HNM.out hns HMV.out HSV.out enters_none enters_opp (asks_none W ns) (goes_opp W nm (by have := HNM.out; omega)) (fun x hx => by have := HNM.out; rw [this] at hx ⊢; exact (rot_perm _ ns).lt x hx))
  have HMO := Lib.hid (moved_op (kd := 2) (k := 0) HH.out.hs.1 HH.out.hm.1 HNM.out (rot fun _ => 2) (fun _ => false) (by unfold opT; simp) (fun _ => rfl))
  clear hb hbx hgr hsz2
  go_wp2_with (first
    | (go_at_call 29; ((with_reducible refine CV.out.mono ?_); rintro e w1 ⟨rfl, hb1⟩; have x0 := (hb1.cell (p := ⟨w.heap.size, 0, none⟩) dlt).trans d0; have x1 := (hb1.cell (p := ⟨w.heap.size, 1, none⟩) dlt).trans d1; have x2 := (hb1.cell (p := ⟨w.heap.size, 2, none⟩) dlt).trans d2))
    | (go_at_call 43; ((with_reducible refine (CM _ (below_step HB.out hb1)).out.mono ?_); rintro e w2 ⟨A1, c1, B1, m1, rfl, oS, oM, hb2⟩; have hr := HBX.out.kp (below_step hb1 hb2); have r0 := hr.1.1; have r1 := hr.1.2.1; have r2 := hr.1.2.2.1; have f0 := hr.2 0; have f1 := hr.2 1; have f2 := hr.2 2)))
  obtain ⟨k0, k1, k2⟩ := set3_cells w2 gr (.slice A1 ns c1) (.slice B1 nm m1) (.int .i64 lp) r0 r1 r2
  have HF : Hid (OpYes w ns nm lp s m 2 0 (.returned (.tuple #[dval A1 ns c1 B1 nm m1 lp, .int .i64 0])) (set3 w2 gr (.slice A1 ns c1) (.slice B1 nm m1) (.int .i64 lp))) := Lib.hid (by
    have hg := HLT.out
    have h1 := hb1.size
    have h0 := HB.out.size
    exact ⟨_, _, _, _, _, _, rfl, (oS.set3 (fun e => by have := World.ownsRow.lt oS _ e; omega) _ _ _).mono (by omega), (oM.set3 (fun e => by have := World.ownsRow.lt oM _ e; omega) _ _ _).mono (by omega), HMO.out, set3_below (below_step HB.out (below_step hb1 hb2)) hg.1 _ _ _⟩)
  exact bodyPost_ret (v := .tuple #[dval A1 ns c1 B1 nm m1 lp, .int .i64 0]) (by simp [results, Try.results15, go_sem, k0, k1, k2]) rfl HF.out
set_option maxHeartbeats 1600000 in
theorem reverse_no (A B : Option Addr) (ns cs nm cm : Nat) (lp : Int) (s m : List Int) (w : World) (h : DV w A ns B nm s m) (hv : validB s m lp = false) :
    Calls Try.prog 15 #[dval A ns cs B nm cm lp] w (OpNo w 1) := by
  have hb1 := below_alloc w (dbox A ns cs B nm cm lp)
  have hb2 := below_alloc (w.alloc (dbox A ns cs B nm cm lp)) (.cells #[.slice none 0 0, .slice none 0 0, .int .i64 0] 24)
  have hd := (DB.new w A ns cs B nm cm lp).keep hb2
  have hbx := bx0_new (w.alloc (dbox A ns cs B nm cm lp))
  have hb := below_step hb1 hb2
  have hsz : (w.alloc (dbox A ns cs B nm cm lp)).heap.size = w.heap.size + 1 := by simp
  rw [hsz] at hbx
  have HH := Lib.hid h
  have HV := Lib.hid hv
  clear hb1 hb2 h hv hsz
  unfold dbox at hd hbx hb
  go_enter Try.func15, Try.ntmps15
  go_upto_region 1 with fail
  generalize (w.alloc (.cells #[.slice A ns cs, .slice B nm cm, .int .i64 lp] 24)).alloc (.cells #[.slice none 0 0, .slice none 0 0, .int .i64 0] 24) = w0 at hd hbx hb ⊢
  obtain ⟨gr, hgr⟩ : ∃ gr, w.heap.size + 1 = gr := ⟨_, rfl⟩
  rw [hgr] at hbx ⊢
  have hwg : w.heap.size ≤ gr := by omega
  have HBX := Lib.hid hbx
  have HB := Lib.hid hb
  obtain ⟨d0, d1, d2, dlt⟩ := hd
  have CV := Lib.hid ((HH.out.keep hb).valid cs cm lp false HV.out)
  clear hb hbx hgr
  go_wp2_with (go_at_call 29; ((with_reducible refine CV.out.mono ?_); rintro e w1 ⟨rfl, hb1⟩; have hr := HBX.out.kp hb1; have r0 := hr.1.1; have r1 := hr.1.2.1; have r2 := hr.1.2.2.1; have f0 := hr.2 0; have f1 := hr.2 1; have f2 := hr.2 2))
  obtain ⟨k0, k1, k2⟩ := set3_cells w1 gr (.slice none 0 0) (.slice none 0 0) (.int .i64 0) r0 r1 r2
  have HF : Hid (OpNo w 1 (.returned (.tuple #[dval none 0 0 none 0 0 0, .int .i64 1])) (set3 w1 gr (.slice none 0 0) (.slice none 0 0) (.int .i64 0))) := Lib.hid ⟨rfl, set3_below (below_step HB.out hb1) hwg _ _ _⟩
  exact bodyPost_ret (v := .tuple #[dval none 0 0 none 0 0 0, .int .i64 1]) (by simp [results, Try.results15, go_sem, k0, k1, k2]) rfl HF.out

end Go.Proofs.Ytdamfoobnbjojaa
