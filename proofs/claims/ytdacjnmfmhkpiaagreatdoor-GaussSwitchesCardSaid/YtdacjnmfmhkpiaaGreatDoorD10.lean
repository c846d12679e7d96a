import Derived.Test.YtdacjnmfmhkpiaaGreatDoorD09
import Derived.Test.YtdacjnmfmhkpiaaGreatDoorD07
import Derived.Test.YtdacjnmfmhkpiaaGreatDoorD05
/- Walk: Of. -/
namespace Go.Proofs.YtdacjnmfmhkpiaaGreatDoor
open Go.RowKit

/-- The code of a diagram: its sequences. -/
def codeC (signs mate : List Int) (lp : Int) : List (List Vis) := (strandsM signs mate lp).map visOf
def OfPost (s m : List Int) (lp : Int) (ns : Nat) (w : World) (e : Ending) (w' : World) : Prop :=
  ∃ C nc cc S cs, e = .returned (.tuple #[dval C nc cc S ns cs lp, .int .i64 0]) ∧ RVV w' C nc (codeC s m lp) ∧ RI w' S ns s ∧ Below w.heap.size w w'
def OfNo (w : World) (e : Ending) (w' : World) : Prop := e = .returned (.tuple #[dval none 0 0 none 0 0 0, .int .i64 1]) ∧ Below w.heap.size w w'

set_option maxHeartbeats 3200000 in
set_option maxRecDepth 100000 in
theorem of_no (A B : Option Addr) (ns cs nm cm : Nat) (lp : Int) (s m : List Int) (w : World) (h : DV w A ns B nm s m) (hv : validB s m lp = false) :
    Calls Tryz.prog 13 #[dval A ns cs B nm cm lp] w (OfNo w) := by
  have hb0 := below_step (below_alloc w (dbox A ns cs B nm cm lp)) (below_alloc _ (.cells #[.slice none 0 0, .slice none 0 0, .int .i64 0] 28))
  have hr := DB.newT (w.alloc (dbox A ns cs B nm cm lp)) none 0 0 none 0 0 0 28
  have hrf : ∀ i, ((w.alloc (dbox A ns cs B nm cm lp)).alloc (.cells #[.slice none 0 0, .slice none 0 0, .int .i64 0] 28)).frozen? ⟨w.heap.size + 1, i, none⟩ = false := fun i => World.frozen?_alloc_at _ _ _ _ (by simp)
  have hsz : ((w.alloc (dbox A ns cs B nm cm lp)).alloc (.cells #[.slice none 0 0, .slice none 0 0, .int .i64 0] 28)).heap.size = w.heap.size + 2 := by simp
  have hsz1 : (w.alloc (dbox A ns cs B nm cm lp)).heap.size = w.heap.size + 1 := by simp
  rw [hsz1] at hr
  go_enter Tryz.func13, Tryz.ntmps13
  go_wp2_with fail
  generalize (w.alloc (dbox A ns cs B nm cm lp)).alloc (.cells #[.slice none 0 0, .slice none 0 0, .int .i64 0] 28) = wA at hb0 hr hrf hsz ⊢
  obtain ⟨g1, hg1⟩ : ∃ g1, w.heap.size + 1 = g1 := ⟨_, rfl⟩
  rw [hg1] at hr hrf ⊢
  have hlt1 : w.heap.size < g1 := by omega
  clear hg1 hsz hsz1
  have HRF := Lib.hid hrf
  obtain ⟨r0, r1, r2, rlt⟩ := hr
  have CV := Lib.hid ((h.keep hb0).valid cs cm lp false hv)
  clear hrf h hv
  refine (CV.out).mono ?_
  rintro e w1 ⟨rfl, hb1⟩
  have q0 := (hb1.cell (p := ⟨g1, 0, none⟩) rlt).trans r0
  have q1 := (hb1.cell (p := ⟨g1, 1, none⟩) rlt).trans r1
  have q2 := (hb1.cell (p := ⟨g1, 2, none⟩) rlt).trans r2
  have f0 := (hb1.frozen (p := ⟨g1, 0, none⟩) rlt).trans (HRF.out 0)
  have f1 := (hb1.frozen (p := ⟨g1, 1, none⟩) rlt).trans (HRF.out 1)
  have f2 := (hb1.frozen (p := ⟨g1, 2, none⟩) rlt).trans (HRF.out 2)
  obtain ⟨k0, k1, k2⟩ := set3_cells w1 g1 (.slice none 0 0) (.slice none 0 0) (.int .i64 0) q0 q1 q2
  have hbF := set3_below (hb0.trans (hb1.mono hb0.size)) (Nat.le_of_lt hlt1) (.slice none 0 0) (.slice none 0 0) (.int .i64 0)
  have HBF := Lib.hid hbF
  clear hbF r0 r1 r2
  go_wp2
  exact bodyPost_ret (v := .tuple #[dval none 0 0 none 0 0 0, .int .i64 1]) (by simp [results, Tryz.results13, go_sem, k0, k1, k2]) rfl ⟨rfl, HBF.out⟩

theorem strands_el {s m : List Int} {lp : Int} {ns : Nat} (hv : validB s m lp = true) (hl : s.length = ns) (k : Nat) (hk : k < (strandsM s m lp).length) :
    ((strandsM s m lp).getD k []).length ≤ 256 ∧ ∀ j, j < ((strandsM s m lp).getD k []).length → 0 ≤ ((strandsM s m lp).getD k []).getD j 0 ∧ ((strandsM s m lp).getD k []).getD j 0 ≤ 256 := by
  obtain ⟨v1, v2, v3, v4⟩ := validB_out hv
  obtain ⟨l1, l2, l3, l4⟩ := limB_out v1
  have hI := matesOf_invol v3 l2
  have hP : Perm (fs (matesOf m)) m.length := by rw [l2]; exact hI.perm 2
  have e : strandsM s m lp = cycL (fs (matesOf m)) m.length (outB s) m.length := by simp [strandsM, hv]
  have hel : (strandsM s m lp).getD k [] ∈ strandsM s m lp := by
    have : (strandsM s m lp).getD k [] = (strandsM s m lp)[k] := by simp [List.getD, hk]
    rw [this]; exact List.getElem_mem _
  rw [e] at hel ⊢
  obtain ⟨h, hh, e2⟩ := List.mem_map.1 hel
  have hlt : h < m.length := by
    have := (List.mem_filter.1 hh).1
    simpa using this
  rw [← e2]
  have hper := (hP.per_spec hlt).2.1
  rw [itl_length]
  refine ⟨by omega, fun j hj => ?_⟩
  rw [itl_getD _ _ _ _ hj]
  have := hP.it_lt hlt j
  omega
theorem hgrown5 {w w4 w5 : World} {o : Obj} {v : Value} (hb4 : Below w.heap.size w w4) (hg5 : (w4.alloc o).grownBy w5 v.ownBlock) : w.grownBy w5 v.ownBlock :=
  (World.grownBy.but (grown_of_below (below_step hb4 (below_alloc w4 o))) _).trans hg5
theorem hcell5 {w w4 w5 : World} {o : Obj} {v u : Value} {gB B : Nat} {tr : TypeId} {vals : List Value} (hb4 : Below w.heap.size w w4) (hg5 : (w4.alloc o).grownBy w5 v.ownBlock) (_ : gB < w.heap.size) (hc : w.cell? ⟨gB, 0, none⟩ = some u) (hrow : ownRow w B tr v vals) (hB : gB < B) (_ : B ≤ w.heap.size) : w5.cell? ⟨gB, 0, none⟩ = some u :=
  World.grownBy.cell (hgrown5 hb4 hg5) hc (fun e => by have := (World.ownsRow.lt hrow gB e.symm).1; omega)
theorem hfroz5 {w w4 w5 : World} {o : Obj} {v : Value} {gB B : Nat} {tr : TypeId} {vals : List Value} (hb4 : Below w.heap.size w w4) (hg5 : (w4.alloc o).grownBy w5 v.ownBlock) (hlt : gB < w.heap.size) {i : Nat} (hc : w.frozen? ⟨gB, i, none⟩ = false) (hrow : ownRow w B tr v vals) (hB : gB < B) (_ : B ≤ w.heap.size) : w5.frozen? ⟨gB, i, none⟩ = false := by
  have h := (hgrown5 hb4 hg5).block gB hlt (fun e => by have := (World.ownsRow.lt hrow gB e.symm).1; omega)
  unfold World.frozen? at hc ⊢
  rw [h]; exact hc
theorem hcell5i {w w4 w5 : World} {o : Obj} {v u : Value} {gB B i : Nat} {tr : TypeId} {vals : List Value} (hb4 : Below w.heap.size w w4) (hg5 : (w4.alloc o).grownBy w5 v.ownBlock) (hc : w.cell? ⟨gB, i, none⟩ = some u) (hrow : ownRow w B tr v vals) (hB : gB < B) : w5.cell? ⟨gB, i, none⟩ = some u :=
  World.grownBy.cell (hgrown5 hb4 hg5) hc (fun e => by have := (World.ownsRow.lt hrow gB e.symm).1; omega)
theorem getD_take {α : Type} (d : α) (xs : List α) (k i : Nat) (h : i < k) : (xs.take k).getD i d = xs.getD i d := by
  simp [List.getD, h]
theorem of_round {w3 wr w4 w5 : World} {Ak A5 S : Option Addr} {k ck c5 ns sc gB g4 : Nat} {lp : Int} {vals : List Value} {codes : List (List Vis)} {vs : List Vis} {o : Obj}
    (hgr : w3.grownBy wr (some gB)) (hfr : ∀ i, wr.frozen? ⟨gB, i, none⟩ = false) (y0 : wr.cell? ⟨gB, 0, none⟩ = some (.slice Ak k ck)) (y1 : wr.cell? ⟨gB, 1, none⟩ = some (.slice S ns sc)) (y2 : wr.cell? ⟨gB, 2, none⟩ = some (.int .i64 lp)) (ylt : gB < wr.heap.size) (hgB : gB < w3.heap.size)
    (hrow : ownRow wr w3.heap.size 49 (.slice Ak k ck) vals) (hvl : vals.length = k) (hk : k < codes.length) (hvi : ∀ i, i < (codes.take k).length → ∃ g cap, w3.heap.size ≤ g ∧ vals.getD i undef = .slice (some ⟨g, 0, none⟩) ((codes.take k).getD i []).length cap ∧ VA wr g 51 ((codes.take k).getD i []))
    (hb4 : Below wr.heap.size wr w4) (hg4 : wr.heap.size ≤ g4) (hva : VA w4 g4 51 vs) (hvs : codes.getD k [] = vs)
    (hrow5 : ownRow w5 w3.heap.size 49 (.slice A5 (k + 1) c5) (vals ++ [.slice (some ⟨g4, 0, none⟩) vs.length vs.length])) (hg5 : (w4.alloc o).grownBy w5 (Value.slice Ak k ck).ownBlock) :
    w3.grownBy (w5.setCell ⟨gB, 0, none⟩ (.slice A5 (k + 1) c5)) (some gB) ∧ (∀ i, (w5.setCell ⟨gB, 0, none⟩ (.slice A5 (k + 1) c5)).frozen? ⟨gB, i, none⟩ = false) ∧
    ∃ Ak ck, DB (w5.setCell ⟨gB, 0, none⟩ (.slice A5 (k + 1) c5)) gB Ak (k + 1) ck S ns sc lp ∧ VO (w5.setCell ⟨gB, 0, none⟩ (.slice A5 (k + 1) c5)) w3.heap.size 49 51 (.slice Ak (k + 1) ck) (codes.take (k + 1)) := by
  have h45 := hgrown5 hb4 hg5
  have hlo : ∀ j, (Value.slice Ak k ck).ownBlock = some j → w3.heap.size ≤ j := fun j hj => (World.ownsRow.lt hrow j hj).1
  have h35 : w3.grownBy w5 (some gB) := hgr.andThen h45 fun j hj => .inl (hlo j hj)
  have hszr := hgr.size
  have hlt5 : gB < w5.heap.size := Nat.lt_of_lt_of_le ylt h45.size
  have hr5 : (Value.slice A5 (k + 1) c5).ownBlock ≠ some gB := fun e => by have := (World.ownsRow.lt hrow5 gB e).1; omega
  refine ⟨grown_set h35 0 _, fun i => ?_, A5, c5, ⟨?_, ?_, ?_, by simp [World.setCell]; exact hlt5⟩, ?_⟩
  · simp [hfroz5 hb4 hg5 ylt (hfr i) hrow hgB hszr]
  · exact World.cell?_setCell_same _ _ _ (hcell5i hb4 hg5 y0 hrow hgB)
  · rw [World.cell?_setCell_other _ _ _ _ (by simp)]; exact hcell5i hb4 hg5 y1 hrow hgB
  · rw [World.cell?_setCell_other _ _ _ _ (by simp)]; exact hcell5i hb4 hg5 y2 hrow hgB
  · have hlen : (codes.take k).length = k := by rw [List.length_take]; omega
    refine ⟨_, hrow5.far (p := ⟨gB, 0, none⟩) hr5 _, by rw [List.length_append, hvl, List.length_take]; simp; omega, fun i hi => ?_⟩
    have hik : i < k + 1 := by rw [List.length_take] at hi; omega
    rw [getD_take _ _ _ _ hik]
    by_cases e : i < k
    · obtain ⟨g, cap, p1, p2, p3⟩ := hvi i (by omega)
      rw [getD_take _ _ _ _ e] at p2 p3
      refine ⟨g, cap, p1, ?_, ?_⟩
      · rw [← p2]; simp [List.getD, List.getElem?_append_left (show i < vals.length by omega)]
      · have q1 : VA w5 g 51 (codes.getD i []) := p3.grown h45 (VA.ne_row p3 hrow (by decide))
        exact q1.far (p := ⟨gB, 0, none⟩) (by show g ≠ gB; omega) _
    · obtain rfl : i = k := by omega
      refine ⟨g4, vs.length, by omega, ?_, ?_⟩
      · rw [hvs]; simp [List.getD, ← hvl]
      · rw [hvs]
        have q0 : VA (w4.alloc o) g4 51 vs := hva.alloc o
        have q1 : VA w5 g4 51 vs := q0.grown hg5 (fun e => by have := (World.ownsRow.lt hrow g4 e.symm).2; omega)
        exact q1.far (p := ⟨gB, 0, none⟩) (by show g4 ≠ gB; omega) _
theorem VO.set3 {w : World} {B g1 : Nat} {tr te : TypeId} {v : Value} {vss : List (List Vis)} (h : VO w B tr te v vss) (hg : g1 < B) (a b c : Value) : VO (set3 w g1 a b c) B tr te v vss := by
  obtain ⟨vals, h1, h2, h3⟩ := h
  have hne : v.ownBlock ≠ some g1 := fun e => by have := (World.ownsRow.lt h1 g1 e).1; omega
  refine ⟨vals, ((h1.far (p := ⟨g1, 0, none⟩) hne _).far (p := ⟨g1, 1, none⟩) hne _).far (p := ⟨g1, 2, none⟩) hne _, h2, fun i hi => ?_⟩
  obtain ⟨g, cap, p1, p2, p3⟩ := h3 i hi
  have hg2 : g ≠ g1 := by omega
  have q1 : VA _ g te (vss.getD i []) := Arr.far (p := ⟨g1, 2, none⟩) (Arr.far (p := ⟨g1, 1, none⟩) (Arr.far (p := ⟨g1, 0, none⟩) p3 hg2 a) hg2 b) hg2 c
  exact ⟨g, cap, p1, p2, q1⟩
theorem codeC_get {s m : List Int} {lp : Int} {k : Nat} {xs : List Int} (h : (strandsM s m lp).getD k [] = xs) (hk : k < (strandsM s m lp).length) : (codeC s m lp).getD k [] = visOf xs := by
  unfold codeC
  rw [← h]
  simp [List.getD, hk]
theorem Tryz.infoVisL : (Tryz.prog.info? 49).map (fun i => (i.zero, i.size, i.bytes)) = some (some (.slice none 0 0), 1, 24) := by kernel_rfl
/-- What the code's box holds when it has been made. -/
def OMade (w : World) (s : List Int) (ns : Nat) (lp : Int) (v : Value) (wX : World) : Prop :=
  ∃ gB S cs, v = .pointer (some ⟨gB, 0, none⟩) ∧ w.heap.size ≤ gB ∧ DB wX gB none 0 0 S ns cs lp ∧ (∀ i, wX.frozen? ⟨gB, i, none⟩ = false) ∧ OI wX w.heap.size (.slice S ns cs) s ∧ (Value.slice S ns cs).ownBlock ≠ some gB ∧ Below w.heap.size w wX

theorem omade1 {w1 w2 : World} {S : Option Addr} {sc ns : Nat} {s : List Int} {lp : Int} (ho : OI w2 w1.heap.size (.slice S ns sc) s) (hb : Below w1.heap.size w1 w2) :
    OMade w1 s ns lp (.pointer (some ⟨w2.heap.size, 0, none⟩)) (w2.alloc (.cells #[.slice none 0 0, .slice S ns sc, .int .i64 lp] 28)) :=
  ⟨w2.heap.size, S, sc, rfl, hb.size, DB.newT w2 none 0 0 S ns sc lp _, fun i => World.frozen?_alloc_at _ _ _ _ rfl, ho.alloc _, fun e => by have := (World.ownsRow.lt ho _ e).2; omega, below_step hb (below_alloc _ _)⟩
theorem omade2 {w1 w2 : World} {B g : Nat} {S : Option Addr} {sc ns : Nat} {s : List Int} {lp : Int} (ho : OI w2 B (.slice S ns sc) s) (hg : w1.heap.size ≤ g) (hgB : g < B) (hb : Below w1.heap.size w1 w2) (hlt : g < w2.heap.size)
    {u0 u1 u2 : Value} (q0 : w2.cell? ⟨g, 0, none⟩ = some u0) (q1 : w2.cell? ⟨g, 1, none⟩ = some u1) (q2 : w2.cell? ⟨g, 2, none⟩ = some u2) (hf : ∀ i, w2.frozen? ⟨g, i, none⟩ = false) :
    OMade w1 s ns lp (.pointer (some ⟨g, 0, none⟩)) (set3 w2 g (.slice none 0 0) (.slice S ns sc) (.int .i64 lp)) := by
  obtain ⟨k0, k1, k2⟩ := set3_cells w2 g (.slice none 0 0) (.slice S ns sc) (.int .i64 lp) q0 q1 q2
  have hne : (Value.slice S ns sc).ownBlock ≠ some g := fun e => by have := (World.ownsRow.lt ho g e).1; omega
  exact ⟨g, S, sc, rfl, hg, ⟨k0, k1, k2, by simp [World.setCell]; exact hlt⟩, fun i => by simp [hf], (ho.set3 hne _ _ _).mono (by omega), hne, set3_below hb hg _ _ _⟩

set_option maxHeartbeats 3200000 in
set_option maxRecDepth 100000 in
theorem of_yes (A B : Option Addr) (ns cs nm cm : Nat) (lp : Int) (s m : List Int) (w : World) (h : DV w A ns B nm s m) (hv : validB s m lp = true) :
    Calls Tryz.prog 13 #[dval A ns cs B nm cm lp] w (OfPost s m lp ns w) := by
  have hd := (DB.new w A ns cs B nm cm lp).keep (below_alloc _ (.cells #[.slice none 0 0, .slice none 0 0, .int .i64 0] 28))
  have hb0 := below_step (below_alloc w (dbox A ns cs B nm cm lp)) (below_alloc _ (.cells #[.slice none 0 0, .slice none 0 0, .int .i64 0] 28))
  have hr := DB.newT (w.alloc (dbox A ns cs B nm cm lp)) none 0 0 none 0 0 0 28
  have hrf : ∀ i, ((w.alloc (dbox A ns cs B nm cm lp)).alloc (.cells #[.slice none 0 0, .slice none 0 0, .int .i64 0] 28)).frozen? ⟨w.heap.size + 1, i, none⟩ = false := fun i => World.frozen?_alloc_at _ _ _ _ (by simp)
  have hsz : ((w.alloc (dbox A ns cs B nm cm lp)).alloc (.cells #[.slice none 0 0, .slice none 0 0, .int .i64 0] 28)).heap.size = w.heap.size + 2 := by simp
  have hsz1 : (w.alloc (dbox A ns cs B nm cm lp)).heap.size = w.heap.size + 1 := by simp
  rw [hsz1] at hr
  go_enter Tryz.func13, Tryz.ntmps13
  go_wp2_with fail
  generalize (w.alloc (dbox A ns cs B nm cm lp)).alloc (.cells #[.slice none 0 0, .slice none 0 0, .int .i64 0] 28) = wA at hd hb0 hr hrf hsz ⊢
  obtain ⟨g1, hg1⟩ : ∃ g1, w.heap.size + 1 = g1 := ⟨_, rfl⟩
  rw [hg1] at hr hrf ⊢
  have hlt1 : w.heap.size < g1 := by omega
  clear hg1 hsz hsz1
  have HRF := Lib.hid hrf
  obtain ⟨r0, r1, r2, rlt⟩ := hr
  obtain ⟨d0, d1, d2, dlt⟩ := hd
  have H := Lib.hid (h.keep hb0)
  have CV := Lib.hid (H.out.valid cs cm lp true hv)
  have HV := Lib.hid hv
  have hns : ns ≤ 64 := by
    have := (limB_out (validB_out hv).1).1
    rw [h.hs.1] at this; exact this
  clear hrf h hv
  go_upto_region 3 with (go_at_call 18; ((with_reducible refine CV.out.mono ?_); rintro e w1 ⟨rfl, hb1⟩))
  have e0 := (hb1.cell (p := ⟨w.heap.size, 0, none⟩) dlt).trans d0
  have e1 := (hb1.cell (p := ⟨w.heap.size, 1, none⟩) dlt).trans d1
  have e2 := (hb1.cell (p := ⟨w.heap.size, 2, none⟩) dlt).trans d2
  have elt := Nat.lt_of_lt_of_le dlt hb1.size
  have CC : ∀ W : World, Below w1.heap.size w1 W → Hid (Calls Tryz.prog 34 #[.slice A ns cs] W (ClPost W ns s)) := fun W hb => sclone_any A ns cs s W (H.out.hs.keep (below_step hb1 hb)) (by omega)
  have hbD : Below w1.heap.size w1 w1.drew := (Below.refl _ _).drew
  have K1 : Hid (∀ o1, (w1.alloc o1).drew.cell? ⟨w.heap.size, 0, none⟩ = some (.slice A ns cs) ∧ (w1.alloc o1).drew.cell? ⟨w.heap.size, 2, none⟩ = some (.int .i64 lp)) := fun o1 => ⟨((below_alloc w1 o1).cell (p := ⟨w.heap.size, 0, none⟩) elt).trans e0, ((below_alloc w1 o1).cell (p := ⟨w.heap.size, 2, none⟩) elt).trans e2⟩
  have hbE : Below w1.heap.size w1 (w1.alloc (.cells #[.slice none 0 0, .slice none 0 0, .int .i64 0] 28)).drew := (below_alloc w1 _).drew
  have HN := Lib.hid (DB.newT w1 none 0 0 none 0 0 0 28)
  have HNF : Hid (∀ i, (w1.alloc (.cells #[.slice none 0 0, .slice none 0 0, .int .i64 0] 28)).drew.frozen? ⟨w1.heap.size, i, none⟩ = false) := fun i => World.frozen?_alloc_at _ _ _ _ (by simp)
  have hnlt : w1.heap.size < (w1.alloc (.cells #[.slice none 0 0, .slice none 0 0, .int .i64 0] 28)).drew.heap.size := by show w1.heap.size < (w1.alloc _).heap.size; simp
  have HNL := Lib.hid hnlt
  clear d0 d1 d2 hnlt
  go_cut [4] (fun v wX => OMade w1 s ns lp v wX)
  case first =>
    go_region_held3 (fun w' => w'.cell? ⟨w.heap.size, 0, none⟩ = some (.slice A ns cs) ∧ w'.cell? ⟨w.heap.size, 2, none⟩ = some (.int .i64 lp))
      (first
        | go_keep
        | with_reducible exact ⟨(hbB.cell (p := ⟨w.heap.size, 0, none⟩) elt).trans e0, (hbB.cell (p := ⟨w.heap.size, 2, none⟩) elt).trans e2⟩
        | with_reducible exact K1.out _
        | with_reducible exact ⟨(set3_far w2 w1.heap.size _ _ _ (Nat.ne_of_gt elt) 0).trans ((hbB.cell (p := ⟨w.heap.size, 0, none⟩) elt).trans e0), (set3_far w2 w1.heap.size _ _ _ (Nat.ne_of_gt elt) 2).trans ((hbB.cell (p := ⟨w.heap.size, 2, none⟩) elt).trans e2)⟩
        | with_reducible exact ⟨((below_step hbB (below_alloc _ _)).cell (p := ⟨w.heap.size, 0, none⟩) elt).trans e0, ((below_step hbB (below_alloc _ _)).cell (p := ⟨w.heap.size, 2, none⟩) elt).trans e2⟩)
      (first
        | (go_at_call 34; ((with_reducible refine (CC _ hbD).out.mono ?_); rintro e w2 ⟨S, sc, rfl, ho1, hb2⟩; have hbB := below_step hbD hb2))
        | (go_at_call 34; ((with_reducible refine (CC _ hbE).out.mono ?_); rintro e w2 ⟨S, sc, rfl, ho1, hb2⟩; have hbB := below_step hbE hb2; have q0 := (hb2.cell (p := ⟨w1.heap.size, 0, none⟩) HNL.out).trans HN.out.1; have q1 := (hb2.cell (p := ⟨w1.heap.size, 1, none⟩) HNL.out).trans HN.out.2.1; have q2 := (hb2.cell (p := ⟨w1.heap.size, 2, none⟩) HNL.out).trans HN.out.2.2.1; have f0 := (hb2.frozen (p := ⟨w1.heap.size, 0, none⟩) HNL.out).trans (HNF.out 0); have f1 := (hb2.frozen (p := ⟨w1.heap.size, 1, none⟩) HNL.out).trans (HNF.out 1); have f2 := (hb2.frozen (p := ⟨w1.heap.size, 2, none⟩) HNL.out).trans (HNF.out 2))))
    all_goals go_wp2_with fail
    all_goals go_meet
    · exact omade1 ho1 hbB
    · exact omade2 (B := w1.heap.size + 1) (by have := ho1; simpa using this) (Nat.le_refl _) (by omega) hbB (Nat.lt_of_lt_of_le HNL.out hb2.size) q0 q1 q2 (fun i => (hb2.frozen (p := ⟨w1.heap.size, i, none⟩) HNL.out).trans (HNF.out i))
  case rest =>
    obtain ⟨gB, S, sc, rfl, hgB, hcb, hcf, hoS, hSne, hbX⟩ := hcut
    clear CC hbD K1 hbE HN HNF HNL
    have H1 := Lib.hid (H.out.keep hb1)
    have hbX' := hbX
    have CS : Hid (Calls Tryz.prog 35 #[dval A ns cs B nm cm lp] wc (CycsPost wc (strandsM s m lp))) := strands_any A B ns cs nm cm lp s m wc (H1.out.keep hbX)
    have x0 := (hbX.cell (p := ⟨w.heap.size, 0, none⟩) elt).trans e0
    have x1 := (hbX.cell (p := ⟨w.heap.size, 1, none⟩) elt).trans e1
    have x2 := (hbX.cell (p := ⟨w.heap.size, 2, none⟩) elt).trans e2
    clear e0 e1 e2
    go_wp2_with (go_at_call 35; ((with_reducible refine CS.out.mono ?_); rintro e w3 ⟨v3, rfl, ho3, hb3⟩; obtain ⟨A3, c3, rfl⟩ := ho3.form))
    have hsm := strandsM_le (signs := s) (mate := m) (lp := lp)
    rw [H1.out.hm.1] at hsm
    have hnm256 : nm ≤ 256 := by
      have := limB_out (validB_out HV.out).1
      have h2 := H1.out.hm.1
      omega
    have HEL := Lib.hid (strands_el HV.out H1.out.hs.1)
    have hgBc : gB < wc.heap.size := hcb.2.2.2
    have hcb3 := hcb.keep hb3
    have hcf3 : ∀ i, w3.frozen? ⟨gB, i, none⟩ = false := fun i => (hb3.frozen (p := ⟨gB, i, none⟩) hgBc).trans (hcf i)
    have hoS3 := hoS.keep hb3
    have HSN := Lib.hid hSne
    have hb13 := below_step hb1 (below_step hbX' hb3)
    have HOO := Lib.hid ho3
    have hgB3 : gB < w3.heap.size := hcb3.2.2.2
    have hgB3' : gB < wc.heap.size := hgBc
    obtain ⟨N, hN⟩ : ∃ N, (strandsM s m lp).length = N := ⟨_, rfl⟩
    have HN := Lib.hid hN
    rw [hN] at hsm ⊢
    have hp3 : Hid (w3.cell? ⟨w.heap.size, 0, none⟩ = some (.slice A ns cs)) := Lib.hid ((hb3.cell (p := ⟨w.heap.size, 0, none⟩) (Nat.lt_of_lt_of_le elt hbX.size)).trans x0)
    have hv0 : VO w3 w3.heap.size 49 51 (.slice none 0 0) ((codeC s m lp).take 0) := VO.nil _ _ _ _
    clear hcb hcf hoS hSne hbX hbX' x0 x1 x2 elt hN ho3 CS
    go_loopw [6, 20] (fun _ i wr => ∃ k : Nat, k ≤ N ∧ i = .int .i64 k ∧ w3.grownBy wr (some gB) ∧ (∀ i, wr.frozen? ⟨gB, i, none⟩ = false) ∧ ∃ Ak ck, DB wr gB Ak k ck S ns sc lp ∧ VO wr w3.heap.size 49 51 (.slice Ak k ck) ((codeC s m lp).take k)) (fun _ i _ => N - (intOf i).toNat)
    case atStart => exact ⟨0, by omega, rfl, World.grownBy.refl _ _, hcf3, none, 0, hcb3, hv0⟩
    case round =>
      obtain ⟨k, hk, rfl, hgr, hfr, Ak, ck, hdb, hvo⟩ := hrel
      have hk0 : (0 : Int) ≤ (k : Int) := Int.natCast_nonneg _
      by_cases hlt : k < N
      · have hoo := HOO.out.grown_lt hgr (fun g e => by injection e with e; omega)
        rw [← HN.out] at hlt
        obtain ⟨_, gA, A', n', c', rfl, hgA1, hgA2, hcel, hoel⟩ := hoo.el k hlt
        have hEL := HEL.out k hlt
        rw [HN.out] at hlt
        have hln := hoel.ri.1
        obtain ⟨xs, hxs⟩ : ∃ xs, (strandsM s m lp).getD k [] = xs := ⟨_, rfl⟩
        rw [hxs] at hEL hoel hln
        have HXS := Lib.hid hxs
        have hwlt : gA < wr.heap.size := hgA2
        have hri := hoel.ri
        obtain ⟨y0, y1, y2, ylt⟩ := hdb
        have CVis : ∀ W : World, Below wr.heap.size wr W → Hid (Calls Tryz.prog 36 #[.slice A' n' c'] W (VisPost W (visOf xs))) := fun W hb => visits_any A' n' c' xs W (hri.keep hb) (by omega) (fun j hj => by have := hEL.2 j (by omega); omega)
        have hbD : Below wr.heap.size wr wr.drew := (Below.refl _ _).drew
        have hszr := hgr.size
        have f0 := hfr 0
        have hk1 : (k : Int) < (N : Int) := by omega
        have HEL2 := Lib.hid hEL
        have HVO := Lib.hid hvo
        have HGR := Lib.hid hgr
        have HFR := Lib.hid hfr
        obtain ⟨vals, hrow, hvl, hvi⟩ := hvo
        have hvl' : vals.length = k := by
          rw [hvl, List.length_take]
          have : (codeC s m lp).length = N := by unfold codeC; rw [List.length_map, HN.out]
          omega
        have HVI := Lib.hid hvi
        have HVL := Lib.hid hvl'
        have HROW := Lib.hid hrow
        have HXL := Lib.hid hln
        clear hEL hxs hln hoo hoel hri hgA1 hgr hfr hvl hvi hvl' hrow
        go_upto_region 7 with fail
        go_region_law (first
          | (refine step_append_row rfl (.tmp 25) (.tmp 28) 26 49 (.slice none 0 0) 24 rfl Tryz.underlying26 Tryz.infoVisL rfl (by omega) w3.heap.size (.slice Ak k ck) vals ?hs ?hown w4.heap.size (.slice (some ⟨g4, 0, none⟩) (visOf xs).length (visOf xs).length) ?hx ?hc rfl ?hlen ?hbase ?_
             case hs => rfl
             case hown => exact (HROW.out.keep hb4).keep (below_alloc w4 _)
             case hx => rfl
             case hc => (rw [World.cell?_alloc_at _ _ _ _ rfl]; rfl)
             case hlen => (rw [HVL.out]; omega)
             case hbase => (have := hb4.size; simp; omega)
             rw [HVL.out]
             intro A5 c5 w5 hrow5 hg5
             have q5 : w5.cell? ⟨gB, 0, none⟩ = some (.slice Ak k ck) := hcell5 hb4 hg5 ylt y0 HROW.out hgB3 hszr
             have f5 : w5.frozen? ⟨gB, 0, none⟩ = false := hfroz5 hb4 hg5 ylt (HFR.out 0) HROW.out hgB3 hszr)
          | (go_simp; go_at_call 36; ((with_reducible refine (CVis _ hbD).out.mono ?_); rintro e w4 ⟨g4, hg4, rfl, hva, hb4'⟩; have hb4 := below_step hbD hb4'; clear hb4'; have q4 := (hb4.cell (p := ⟨gB, 0, none⟩) ylt).trans y0; have K4 : ∀ o, (w4.alloc o).cell? ⟨gB, 0, none⟩ = some (.slice Ak k ck) := (fun o => ((below_step hb4 (below_alloc w4 o)).cell (p := ⟨gB, 0, none⟩) ylt).trans y0))))
        all_goals
          have hcl : k < (codeC s m lp).length := by unfold codeC; rw [List.length_map, HN.out]; omega
          have HREL := Lib.hid (of_round HGR.out HFR.out y0 y1 y2 ylt hgB3 HROW.out HVL.out hcl HVI.out hb4 (show wr.heap.size ≤ g4 from hg4) hva (codeC_get HXS.out (by rw [HN.out]; omega)) hrow5 hg5)
          clear hcl hrow5 hg5 hva
          go_wp2
          go_roundw
          case rel => exact ⟨k + 1, by omega, by go_num, HREL.out⟩
          case measure => simp [intOf]; omega
      · obtain rfl : N = k := by omega
        have hcl : (codeC s m lp).take N = codeC s m lp := by
          have : (codeC s m lp).length = N := by unfold codeC; rw [List.length_map, HN.out]
          rw [← this, List.take_length]
        rw [hcl] at hvo
        obtain ⟨y0, y1, y2, ylt⟩ := hdb
        have hszr := hgr.size
        have hg1A : g1 < w1.heap.size := Nat.lt_of_lt_of_le rlt hb1.size
        have hg13 : g1 < w3.heap.size := Nat.lt_of_lt_of_le rlt hb13.size
        have hne1 : (some g1 : Option Nat) ≠ some gB := fun e => by injection e with e; omega
        have hblk := hgr.block g1 hg13 hne1
        have q0 := (World.grownBy.cell hgr ((hb13.cell (p := ⟨g1, 0, none⟩) rlt).trans r0) hne1)
        have q1 := (World.grownBy.cell hgr ((hb13.cell (p := ⟨g1, 1, none⟩) rlt).trans r1) hne1)
        have q2 := (World.grownBy.cell hgr ((hb13.cell (p := ⟨g1, 2, none⟩) rlt).trans r2) hne1)
        have hfz : ∀ i, wr.frozen? ⟨g1, i, none⟩ = false := fun i => by
          have h3 := (hb13.frozen (p := ⟨g1, i, none⟩) rlt).trans (HRF.out i)
          unfold World.frozen? at h3 ⊢
          rw [hblk]; exact h3
        have f0 := hfz 0
        have f1 := hfz 1
        have f2 := hfz 2
        obtain ⟨k0, k1, k2⟩ := set3_cells wr g1 (.slice Ak N ck) (.slice S ns sc) (.int .i64 lp) q0 q1 q2
        have hvF := (hvo.set3 hg13 (.slice Ak N ck) (.slice S ns sc) (.int .i64 lp)).rvv
        have hoF := ((hoS3.grown hgr (.inr HSN.out)).set3 (fun e => by have := (World.ownsRow.lt hoS3 g1 e).1; omega) (.slice Ak N ck) (.slice S ns sc) (.int .i64 lp)).ri
        have hwA := hb0.size
        have hb1s := hb1.size
        have h13s := hb13.size
        have hbr : Below w.heap.size w wr := grown_below (below_step hb0 hb13) hgr (by omega) (by omega)
        have hbF := set3_below hbr (Nat.le_of_lt hlt1) (.slice Ak N ck) (.slice S ns sc) (.int .i64 lp)
        have HF := Lib.hid (show OfPost s m lp ns w (.returned (.tuple #[dval Ak N ck S ns sc lp, .int .i64 0])) (set3 wr g1 (.slice Ak N ck) (.slice S ns sc) (.int .i64 lp)) from ⟨Ak, N, ck, S, sc, rfl, hvF, hoF, hbF⟩)
        clear hvF hoF hbF hbr hvo hcl hblk hfz hlt hk hk0 hoS3 hgr hfr
        go_wp2
        exact bodyPost_ret (v := .tuple #[dval Ak N ck S ns sc lp, .int .i64 0]) (by simp [results, Tryz.results13, go_sem, k0, k1, k2]) rfl HF.out

end Go.Proofs.YtdacjnmfmhkpiaaGreatDoor
