import Derived.Test.YtdacjnmfmhkpiaaGreatDoorD16
import Derived.Test.YtdacjnmfmhkpiaaGreatDoorD20
import Derived.Test.YtdacjnmfmhkpiaaGreatDoorD07
import Derived.Test.YtdacjnmfmhkpiaaGreatDoorD09
import Derived.Deep.RegionHeld3
import Derived.Deep.DeepCutAuto
/- Walk: the reference's Of. -/
namespace Go.Proofs.YtdacjnmfmhkpiaaGreatDoor
open Go.ChangeShapes Go.WideShapes Go.ChangeAt Go.RowKit

theorem omade1T {w1 w2 : World} {S : Option Addr} {sc ns : Nat} {s : List Int} {lp : Int} (t : TypeId) (ho : OI w2 w1.heap.size (.slice S ns sc) s) (hb : Below w1.heap.size w1 w2) :
    OMade w1 s ns lp (.pointer (some ⟨w2.heap.size, 0, none⟩)) (w2.alloc (.cells #[.slice none 0 0, .slice S ns sc, .int .i64 lp] t)) :=
  ⟨w2.heap.size, S, sc, rfl, hb.size, DB.newT w2 none 0 0 S ns sc lp _, fun i => World.frozen?_alloc_at _ _ _ _ rfl, ho.alloc _, fun e => by have := (World.ownsRow.lt ho _ e).2; omega, below_step hb (below_alloc _ _)⟩
theorem omade3 {w1 w2 : World} {g : Nat} {S : Option Addr} {sc ns : Nat} {s : List Int} {lp : Int} (ho : OI w2 w1.heap.size (.slice S ns sc) s) (hne : (Value.slice S ns sc).ownBlock ≠ some g) (hg : w1.heap.size ≤ g) (hb : Below w1.heap.size w1 w2) (hlt : g < w2.heap.size)
    {u0 u1 u2 : Value} (q0 : w2.cell? ⟨g, 0, none⟩ = some u0) (q1 : w2.cell? ⟨g, 1, none⟩ = some u1) (q2 : w2.cell? ⟨g, 2, none⟩ = some u2) (hf : ∀ i, w2.frozen? ⟨g, i, none⟩ = false) :
    OMade w1 s ns lp (.pointer (some ⟨g, 0, none⟩)) (set3 w2 g (.slice none 0 0) (.slice S ns sc) (.int .i64 lp)) := by
  obtain ⟨k0, k1, k2⟩ := set3_cells w2 g (.slice none 0 0) (.slice S ns sc) (.int .i64 lp) q0 q1 q2
  exact ⟨g, S, sc, rfl, hg, ⟨k0, k1, k2, by simp [World.setCell]; exact hlt⟩, fun i => by simp [hf], ho.set3 hne _ _ _, hne, set3_below hb hg _ _ _⟩
theorem one_cells (W : World) (x y : Value) (t : TypeId) : ∀ j u, [x, y][j]? = some u → (W.alloc (.cells #[x, y] t)).cell? ((⟨W.heap.size, 0, none⟩ : Addr).add j) = some u := fun j u h => by
  have h0 : ∀ i, (W.alloc (.cells #[x, y] t)).cell? ⟨W.heap.size, i, none⟩ = #[x, y][i]? := fun i => by rw [World.cell?_alloc_at _ _ _ _ rfl]
  rw [add_plain, Nat.zero_add, h0]
  match j, h with
  | 0, h => exact h
  | 1, h => exact h
theorem step_append_vis {ops : Array Oper} {o : Oper} {a : Act} {w : World} {K : Act → World → Prop} {Q : Exit → Act → World → Prop} {E : Prop} (hgd : o.guard = none) (s x : Operand)
    (ho : o.op = .call { callee := .builtin .append, args := #[s, x], argTypes := #[72, 72] })
    (B : Nat) (v : Value) (n : Nat) (xs : List Value) (hs : a.eval s = v) (hown : w.ownsRow B 73 2 v n xs) (g : Nat) (u0 u1 : Value) (hx : a.eval x = .slice (some ⟨g, 0, none⟩) 1 1) (hc : ∀ j u, [u0, u1][j]? = some u → w.cell? ((⟨g, 0, none⟩ : Addr).add j) = some u) (h0 : u0.oneCell' = true) (h1 : u1.oneCell' = true) (hlen : n ≤ 1000000) (hbase : B ≤ w.heap.size)
    (h : ∀ v' w', w'.ownsRow B 73 2 v' (n + 1) (xs ++ [u0, u1]) → w.grownBy w' v.ownBlock → K (a.put o.dst v') w') :
    if Region.wanted o (yielded ops a.tmps) = true then Oper.wp Tryz.prog o a w K Q else E := by
  have hw : Region.wanted o (yielded ops a.tmps) = true := by simp [Region.wanted, hgd]
  rw [if_pos hw]
  obtain ⟨i0, hi, hz0, hz1, hz2⟩ := info_parts Tryz.infoVisR
  exact wp_append_own w s x 72 ho B 73 i0 (.agg #[.int .i64 0, .bool false]) 2 16 Tryz.underlying72 hi hz0 hz1 hz2 rfl (by decide) v n xs hs hown ⟨g, 0, none⟩ 1 1 [u0, u1] hx rfl hc
    (fun u hu => by simp at hu; rcases hu with rfl | rfl <;> assumption) (by unfold maxLen; omega) (by omega) hbase fun v' w' h2 h3 _ => h v' w' h2 h3
theorem rof_round {w3 wr w5 : World} {Ak A5 S Av : Option Addr} {k ck c5 ns sc gB nv cv : Nat} {lp : Int} {vals : List Value} {vss : List (List Vis)} {l : List Vis} {o : Obj}
    (hgr : w3.grownBy wr (some gB)) (hgB : gB < w3.heap.size) (hfr : ∀ i, wr.frozen? ⟨gB, i, none⟩ = false) (hdb : DB wr gB Ak k ck S ns sc lp) (hrow : VR wr w3.heap.size 72 73 (.slice Ak k ck) vals (vss.take k)) (hk : k < vss.length) (hl : vss.getD k [] = l)
    (hv : VEl wr w3.heap.size 73 Av nv l)
    (hrow5 : ownRow w5 w3.heap.size 72 (.slice A5 (k + 1) c5) (vals ++ [.slice Av nv cv])) (hg5 : (wr.alloc o).grownBy w5 (Value.slice Ak k ck).ownBlock) :
    w3.grownBy (w5.setCell ⟨gB, 0, none⟩ (.slice A5 (k + 1) c5)) (some gB) ∧ (∀ i, (w5.setCell ⟨gB, 0, none⟩ (.slice A5 (k + 1) c5)).frozen? ⟨gB, i, none⟩ = false) ∧
    ∃ Ak ck vals, DB (w5.setCell ⟨gB, 0, none⟩ (.slice A5 (k + 1) c5)) gB Ak (k + 1) ck S ns sc lp ∧ VR (w5.setCell ⟨gB, 0, none⟩ (.slice A5 (k + 1) c5)) w3.heap.size 72 73 (.slice Ak (k + 1) ck) vals (vss.take (k + 1)) := by
  obtain ⟨y0, y1, y2, ylt⟩ := hdb
  have hb4 := Below.refl wr.heap.size wr
  have h45 := hgrown5 hb4 hg5
  have hlo : ∀ j, (Value.slice Ak k ck).ownBlock = some j → w3.heap.size ≤ j := fun j hj => (World.ownsRow.lt hrow.1 j hj).1
  have h35 : w3.grownBy w5 (some gB) := hgr.andThen h45 fun j hj => .inl (hlo j hj)
  have hszr := hgr.size
  have hlt5 : gB < w5.heap.size := Nat.lt_of_lt_of_le ylt h45.size
  refine ⟨grown_set h35 0 _, fun i => ?_, A5, c5, vals ++ [.slice Av nv cv], ⟨?_, ?_, ?_, by simp [World.setCell]; exact hlt5⟩, ?_⟩
  · simp [hfroz5 hb4 hg5 ylt (hfr i) hrow.1 hgB hszr]
  · exact World.cell?_setCell_same _ _ _ (hcell5i hb4 hg5 y0 hrow.1 hgB)
  · rw [World.cell?_setCell_other _ _ _ _ (by simp)]; exact hcell5i hb4 hg5 y1 hrow.1 hgB
  · rw [World.cell?_setCell_other _ _ _ _ (by simp)]; exact hcell5i hb4 hg5 y2 hrow.1 hgB
  · rw [take_succ_getD vss [] k hk, hl]
    exact (hrow.snoc hv hrow5 hg5 (by decide)).set hgB _
theorem visOf_getD (xs : List Int) (q : Nat) (h : q < xs.length) : (visOf xs).getD q v0 = visX (xs.getD q 0) := by simp [visOf, List.getD, h]
theorem map_getD (xss : List (List Int)) (k : Nat) (h : k < xss.length) : (xss.map visOf).getD k [] = visOf (xss.getD k []) := by simp [List.getD, h]
/-- What is known of the new code's box behind the append. -/
def BoxAt (w : World) (g : Nat) : Prop := DB w g none 0 0 none 0 0 0 ∧ ∀ i, w.frozen? ⟨g, i, none⟩ = false
theorem BoxAt.new (w : World) (t : TypeId) : BoxAt (w.alloc (.cells #[.slice none 0 0, .slice none 0 0, .int .i64 0] t)) w.heap.size := ⟨DB.newT w none 0 0 none 0 0 0 t, fun _ => World.frozen?_alloc_at _ _ _ _ rfl⟩
theorem BoxAt.grown {w w' : World} {g q : Nat} (h : BoxAt w g) (hg : w.grownBy w' (some q)) (hne : g ≠ q) : BoxAt w' g := by
  have hn : ∀ i, some (⟨g, i, none⟩ : Addr).block ≠ some q := fun i e => by injection e with e; exact hne e
  refine ⟨⟨World.grownBy.cell hg h.1.1 (hn 0), World.grownBy.cell hg h.1.2.1 (hn 1), World.grownBy.cell hg h.1.2.2.1 (hn 2), Nat.lt_of_lt_of_le h.1.2.2.2 hg.size⟩, fun i => ?_⟩
  have h3 := h.2 i
  have h4 := hg.block g h.1.2.2.2 (hn 0)
  unfold World.frozen? at h3 ⊢
  rw [h4]; exact h3
theorem BoxAt.alloc {w : World} {g : Nat} (h : BoxAt w g) (o : Obj) : BoxAt (w.alloc o) g := by
  refine ⟨h.1.keep (below_alloc w o), fun i => ?_⟩
  exact ((below_alloc w o).frozen (p := ⟨g, i, none⟩) h.1.2.2.2).trans (h.2 i)
def ROfPost (s : List Int) (codes : List (List Vis)) (lp : Int) (ns : Nat) (w : World) (e : Ending) (w' : World) : Prop :=
  ∃ C cc S cs, e = .returned (dval C codes.length cc S ns cs lp) ∧ RVV w' C codes.length codes ∧ RI w' S ns s ∧ Below w.heap.size w w'

set_option maxHeartbeats 3200000 in
set_option maxRecDepth 100000 in
theorem rof_any (A B : Option Addr) (ns cs nm cm : Nat) (lp : Int) (s : List Int) (xss : List (List Int)) (w : World) (hs : RI w A ns s) (hns : ns ≤ 1000) (hxl : xss.length ≤ 1000)
    (hel : ∀ j, j < xss.length → (xss.getD j []).length ≤ 1000 ∧ ∀ i, i < (xss.getD j []).length → 0 ≤ (xss.getD j []).getD i 0 ∧ (xss.getD j []).getD i 0 ≤ 1000)
    (hst : ∀ W, Below w.heap.size w W → Calls Tryz.prog 41 #[dval A ns cs B nm cm lp] W (CycsPost W xss)) :
    Calls Tryz.prog 17 #[dval A ns cs B nm cm lp] w (ROfPost s (xss.map visOf) lp ns w) := by
  have hd := (DB.new w A ns cs B nm cm lp).keep (below_alloc _ (.cells #[.slice none 0 0, .slice none 0 0, .int .i64 0] 36))
  have hb0 := below_step (below_alloc w (dbox A ns cs B nm cm lp)) (below_alloc _ (.cells #[.slice none 0 0, .slice none 0 0, .int .i64 0] 36))
  have hr := DB.newT (w.alloc (dbox A ns cs B nm cm lp)) none 0 0 none 0 0 0 36
  have hrf : ∀ i, ((w.alloc (dbox A ns cs B nm cm lp)).alloc (.cells #[.slice none 0 0, .slice none 0 0, .int .i64 0] 36)).frozen? ⟨w.heap.size + 1, i, none⟩ = false := fun i => World.frozen?_alloc_at _ _ _ _ (by simp)
  have hsz : ((w.alloc (dbox A ns cs B nm cm lp)).alloc (.cells #[.slice none 0 0, .slice none 0 0, .int .i64 0] 36)).heap.size = w.heap.size + 2 := by simp
  have hsz1 : (w.alloc (dbox A ns cs B nm cm lp)).heap.size = w.heap.size + 1 := by simp
  rw [hsz1] at hr
  have HEL := Lib.hid hel
  have HST := Lib.hid hst
  clear hel hst
  go_enter Tryz.func17, Tryz.ntmps17
  go_upto_region 1 with fail
  generalize (w.alloc (dbox A ns cs B nm cm lp)).alloc (.cells #[.slice none 0 0, .slice none 0 0, .int .i64 0] 36) = wA at hd hb0 hr hrf hsz ⊢
  obtain ⟨g1, hg1⟩ : ∃ g1, w.heap.size + 1 = g1 := ⟨_, rfl⟩
  rw [hg1] at hr hrf ⊢
  have hlt1 : w.heap.size < g1 := by omega
  clear hg1 hsz hsz1
  obtain ⟨d0, d1, d2, dlt⟩ := hd
  obtain ⟨r0, r1, r2, rlt⟩ := hr
  have hs1 := hs.keep hb0
  have HRF := Lib.hid hrf
  clear hs hrf
  have K1 : Hid (∀ o1, (wA.alloc o1).drew.cell? ⟨w.heap.size, 0, none⟩ = some (.slice A ns cs) ∧ (wA.alloc o1).drew.cell? ⟨w.heap.size, 2, none⟩ = some (.int .i64 lp)) := fun o1 => ⟨((below_alloc wA o1).cell (p := ⟨w.heap.size, 0, none⟩) dlt).trans d0, ((below_alloc wA o1).cell (p := ⟨w.heap.size, 2, none⟩) dlt).trans d2⟩
  have K2 : Hid (∀ o1 o2, ((wA.alloc o1).alloc o2).drew.cell? ⟨w.heap.size, 0, none⟩ = some (.slice A ns cs) ∧ ((wA.alloc o1).alloc o2).drew.cell? ⟨w.heap.size, 2, none⟩ = some (.int .i64 lp)) := fun o1 o2 => ⟨((below_step (below_alloc wA o1) (below_alloc _ o2)).cell (p := ⟨w.heap.size, 0, none⟩) dlt).trans d0, ((below_step (below_alloc wA o1) (below_alloc _ o2)).cell (p := ⟨w.heap.size, 2, none⟩) dlt).trans d2⟩
  go_cut [3] (fun v wX => OMade wA s ns lp v wX)
  case first =>
    go_region_held3 (fun w' => w'.cell? ⟨w.heap.size, 0, none⟩ = some (.slice A ns cs) ∧ w'.cell? ⟨w.heap.size, 2, none⟩ = some (.int .i64 lp))
      (first
        | go_keep
        | with_reducible exact ⟨(hbB.cell (p := ⟨w.heap.size, 0, none⟩) dlt).trans d0, (hbB.cell (p := ⟨w.heap.size, 2, none⟩) dlt).trans d2⟩
        | with_reducible exact K1.out _
        | with_reducible exact ⟨(set3_far w1 wA.heap.size _ _ _ (Nat.ne_of_gt dlt) 0).trans ((hbB.cell (p := ⟨w.heap.size, 0, none⟩) dlt).trans d0), (set3_far w1 wA.heap.size _ _ _ (Nat.ne_of_gt dlt) 2).trans ((hbB.cell (p := ⟨w.heap.size, 2, none⟩) dlt).trans d2)⟩
        | with_reducible exact ⟨(set3_far w1 (wA.heap.size + 1) _ _ _ (Nat.ne_of_gt (Nat.lt_succ_of_lt dlt)) 0).trans ((hbB.cell (p := ⟨w.heap.size, 0, none⟩) dlt).trans d0), (set3_far w1 (wA.heap.size + 1) _ _ _ (Nat.ne_of_gt (Nat.lt_succ_of_lt dlt)) 2).trans ((hbB.cell (p := ⟨w.heap.size, 2, none⟩) dlt).trans d2)⟩
        | with_reducible exact K2.out _ _
        | with_reducible exact ⟨((below_step hbB (below_alloc _ _)).cell (p := ⟨w.heap.size, 0, none⟩) dlt).trans d0, ((below_step hbB (below_alloc _ _)).cell (p := ⟨w.heap.size, 2, none⟩) dlt).trans d2⟩)
      (first
        | (refine step_append_new rfl (.tmp 8) (.tmp 10) rfl wA.heap.size _ (by rfl) (by exact heap_alloc_new wA _) (by exact Nat.le_refl _) A ns cs s (by rfl) (by exact (hs1.alloc _).drew) (by omega) ?_; intro A1 c1 w1 k1 ho1 hk1 hat1 hkl1 hgr1; have hbB : Below wA.heap.size wA w1 := Below.grown (((Below.refl _ _).alloc (Nat.le_refl _) _).drew) hgr1 (by simp <;> omega) (by intro q hq; injection hq with hq; subst hq; simp <;> omega))
        | (refine step_append_new rfl (.tmp 8) (.tmp 10) rfl wA.heap.size _ (by rfl) (by exact heap_two1 wA _ _) (by exact Nat.le_succ _) A ns cs s (by rfl) (by exact ((hs1.alloc _).alloc _).drew) (by omega) ?_; intro A1 c1 w1 k1 ho1 hk1 hat1 hkl1 hgr1; have hbB : Below wA.heap.size wA w1 := Below.grown ((((Below.refl _ _).alloc (Nat.le_refl _) _).alloc (by simp <;> omega) _).drew) hgr1 (by simp <;> omega) (by intro q hq; injection hq with hq; subst hq; simp <;> omega); have hbx : BoxAt w1 wA.heap.size := BoxAt.grown (w := ((wA.alloc (.cells #[.slice none 0 0, .slice none 0 0, .int .i64 0] 36)).alloc (.cells #[] 3)).drew) ((BoxAt.new wA 36).alloc _) hgr1 (by omega); have q0 := hbx.1.1; have q1 := hbx.1.2.1; have q2 := hbx.1.2.2.1; have f0 := hbx.2 0; have f1 := hbx.2 1; have f2 := hbx.2 2)
        | (refine step_append_new rfl (.tmp 8) (.tmp 10) rfl wA.heap.size _ (by rfl) (by exact heap_two0 wA _ _) (by exact Nat.le_refl _) A ns cs s (by rfl) (by exact ((hs1.alloc _).alloc _).drew) (by omega) ?_; intro A1 c1 w1 k1 ho1 hk1 hat1 hkl1 hgr1; have hbB : Below wA.heap.size wA w1 := Below.grown ((((Below.refl _ _).alloc (Nat.le_refl _) _).alloc (by simp <;> omega) _).drew) hgr1 (by simp <;> omega) (by intro q hq; injection hq with hq; subst hq; simp <;> omega); have hbx : BoxAt w1 (wA.heap.size + 1) := BoxAt.grown (w := ((wA.alloc (.cells #[] 3)).alloc (.cells #[.slice none 0 0, .slice none 0 0, .int .i64 0] 36)).drew) (by have h5 := BoxAt.new (wA.alloc (.cells #[] 3)) 36; rw [show (wA.alloc (.cells #[] 3)).heap.size = wA.heap.size + 1 by simp] at h5; exact h5) hgr1 (by omega); have q0 := hbx.1.1; have q1 := hbx.1.2.1; have q2 := hbx.1.2.2.1; have f0 := hbx.2 0; have f1 := hbx.2 1; have f2 := hbx.2 2))
    all_goals go_wp2_with fail
    all_goals go_meet
    · exact omade1T _ ho1 hbB
    · exact omade3 ho1 (fun e => by rw [hk1] at e; injection e with e; simp at hat1; omega) (Nat.le_succ _) hbB hbx.1.2.2.2 hbx.1.1 hbx.1.2.1 hbx.1.2.2.1 hbx.2
    · exact omade3 ho1 (fun e => by rw [hk1] at e; injection e with e; simp at hat1; omega) (Nat.le_refl _) hbB hbx.1.2.2.2 hbx.1.1 hbx.1.2.1 hbx.1.2.2.1 hbx.2
  case rest =>
    obtain ⟨gB, S, sc, rfl, hgB, hcb, hcf, hoS, hSne, hbX⟩ := hcut
    clear K1 K2
    have hbwc := below_step hb0 hbX
    have x0 := (hbX.cell (p := ⟨w.heap.size, 0, none⟩) dlt).trans d0
    have x1 := (hbX.cell (p := ⟨w.heap.size, 1, none⟩) dlt).trans d1
    have x2 := (hbX.cell (p := ⟨w.heap.size, 2, none⟩) dlt).trans d2
    have CS := Lib.hid (HST.out wc hbwc)
    clear d0 d1 d2
    go_wp2_with (go_at_call 41; ((with_reducible refine CS.out.mono ?_); rintro e w3 ⟨v3, rfl, ho3, hb3⟩; obtain ⟨A3, c3, rfl⟩ := ho3.form))
    have hgBc : gB < wc.heap.size := hcb.2.2.2
    have hcb3 := hcb.keep hb3
    have hcf3 : ∀ i, w3.frozen? ⟨gB, i, none⟩ = false := fun i => (hb3.frozen (p := ⟨gB, i, none⟩) hgBc).trans (hcf i)
    have hoS3 := hoS.keep hb3
    have HSN := Lib.hid hSne
    have HOO := Lib.hid ho3
    have hgB3 : gB < w3.heap.size := hcb3.2.2.2
    have hbA3 := below_step hbX hb3
    obtain ⟨N, hN⟩ : ∃ N, xss.length = N := ⟨_, rfl⟩
    have HN := Lib.hid hN
    rw [hN] at hxl ⊢
    have hv0 : VR w3 w3.heap.size 72 73 (.slice none 0 0) [] ((xss.map visOf).take 0) := ⟨World.ownsRow_nil w3 _ _ _, rfl, fun i hi => absurd hi (by simp)⟩
    have HML : Hid ((xss.map visOf).length = N) := Lib.hid (by rw [List.length_map, hN])
    clear hcb hcf hoS hSne hbX x0 x1 x2 hN ho3 CS HST
    go_loopw [5, 6, 7] (fun i _ _ wr => ∃ k : Nat, k ≤ N ∧ i = .int .i64 k ∧ w3.grownBy wr (some gB) ∧ (∀ i, wr.frozen? ⟨gB, i, none⟩ = false) ∧ ∃ Ak ck vals, DB wr gB Ak k ck S ns sc lp ∧ VR wr w3.heap.size 72 73 (.slice Ak k ck) vals ((xss.map visOf).take k)) (fun i _ _ _ => N - (intOf i).toNat)
    case atStart => exact ⟨0, by omega, rfl, World.grownBy.refl _ _, hcf3, none, 0, [], hcb3, hv0⟩
    case round =>
      obtain ⟨k, hk, rfl, hgr, hfr, Ak, ck, vals, hdb, hrow⟩ := hrel
      have hk0 : (0 : Int) ≤ (k : Int) := Int.natCast_nonneg _
      by_cases hlt : k < N
      · have hoo := HOO.out.grown_lt hgr (fun g e => by injection e with e; omega)
        rw [← HN.out] at hlt
        obtain ⟨_, gA, A', n', c', rfl, hgA1, hgA2, hcel, hoel⟩ := hoo.el k hlt
        have hEL := HEL.out k hlt
        have hmg := map_getD xss k hlt
        rw [HN.out] at hlt
        have hln := hoel.ri.1
        obtain ⟨xs, hxs⟩ : ∃ xs, xss.getD k [] = xs := ⟨_, rfl⟩
        rw [hxs] at hEL hoel hln hmg
        have hri := hoel.ri
        have hk1 : (k : Int) < (N : Int) := by omega
        have hn1000 : n' ≤ 1000 := by rw [← hln]; exact hEL.1
        have HEL2 : Hid (∀ i, i < n' → 0 ≤ xs.getD i 0 ∧ xs.getD i 0 ≤ 1000) := Lib.hid fun i hi => hEL.2 i (by omega)
        have HLN := Lib.hid hln
        have HRI := Lib.hid hri
        have HGR := Lib.hid hgr
        have HFR := Lib.hid hfr
        have HDB := Lib.hid hdb
        have HROW := Lib.hid hrow
        have HMG := Lib.hid hmg
        have HVL : Hid ((visOf xs).length = n') := Lib.hid (by rw [visOf_length, hln])
        have hszr := hgr.size
        obtain ⟨Bi, hBi⟩ : ∃ Bi, wr.heap.size = Bi := ⟨_, rfl⟩
        have hBr : Below Bi wr wr := Below.refl _ _
        obtain ⟨wC, hwC⟩ : ∃ wC : World, wC = wr := ⟨_, rfl⟩
        subst hwC
        have hv1 : wC.ownsRow Bi 73 2 (.slice none 0 0) 0 (vcells ((visOf xs).take 0)) := World.ownsRow_nil wC _ _ _
        have HBI := Lib.hid hBi
        clear hEL hxs hln hoo hoel hri hgA1 hgr hfr hdb hrow hmg hBi
        go_wp2
        go_loopw [6, 7] (fun v i wr => ∃ q : Nat, q ≤ n' ∧ i = .int .i64 q ∧ Below Bi wC wr ∧ wr.ownsRow Bi 73 2 v q (vcells ((visOf xs).take q))) (fun _ i _ => n' - (intOf i).toNat)
        case atStart => exact ⟨0, by omega, rfl, hBr, hv1⟩
        case round =>
          obtain ⟨q, hq, rfl, hbq, hown⟩ := hrel
          have hq0 : (0 : Int) ≤ (q : Int) := Int.natCast_nonneg _
          have hbq' : Below wC.heap.size wC wr := by rw [HBI.out]; exact hbq
          have hcelq := (hbq'.cell (p := ⟨gA, k, none⟩) hgA2).trans hcel
          by_cases hql : q < n'
          · obtain ⟨b1, o1, hAe, hb1, hcv⟩ := (HRI.out.keep hbq').2 (by omega)
            subst hAe
            have z0 := hcv q hql
            obtain ⟨hx0, hx1⟩ := HEL2.out q hql
            have hqx : q < xs.length := by have := HLN.out; omega
            have htk := take_succ_getD (visOf xs) v0 q (by rw [HVL.out]; exact hql)
            rw [visOf_getD xs q hqx] at htk
            obtain ⟨x, hxe⟩ := Int.eq_ofNat_of_zero_le hx0
            rw [hxe] at z0 hx1 htk
            have hvc : vcells ((visOf xs).take (q + 1)) = vcells ((visOf xs).take q) ++ [.int .i64 ((x : Int) / 4), .bool ((x : Int) % 2 == 1)] := by rw [htk, vcells_snoc]; rfl
            have HVC := Lib.hid hvc
            have HOWN := Lib.hid hown
            have hq1 : (q : Int) < (n' : Int) := by omega
            have hxn : (0 : Int) ≤ (x : Int) := Int.natCast_nonneg _
            have hsq : Bi ≤ wr.heap.size := by have := hbq'.size; have := HBI.out; omega
            have hlenq : q ≤ 1000000 := by omega
            have hw1 : IntKind.i64.wrap ((x : Int) / 4) = (x : Int) / 4 := IntWalk.i64_in _ (by omega)
            have hw2 : IntKind.i64.wrap ((x : Int) % 2) = (x : Int) % 2 := IntWalk.i64_in _ (by omega)
            clear hcv hxe hx0 htk hvc hown
            go_wp2
            go_region_law (refine step_append_vis rfl (.tmp 32) (.tmp 51) rfl Bi _ q (vcells ((visOf xs).take q)) rfl ((HOWN.out.alloc _).drew) wr.heap.size (.int .i64 ((x : Int) / 4)) (.bool ((x : Int) % 2 == 1)) rfl (one_cells wr _ _ _) rfl rfl hlenq (by show Bi ≤ (wr.alloc _).heap.size; simp; omega) ?_; intro v5 w5 hown5 hg5)
            all_goals
              have hb5 : Below Bi wC w5 := ((hbq.alloc hsq _).drew).grown hg5 (by show Bi ≤ (wr.alloc _).heap.size; simp; omega) (fun j hj => (World.ownsRow.lt HOWN.out j hj).1)
              have HO5 : Hid (w5.ownsRow Bi 73 2 v5 (q + 1) (vcells ((visOf xs).take (q + 1)))) := by rw [HVC.out]; exact hown5
              clear hown5 hg5
              go_wp2
              go_roundw
              case rel => exact ⟨q + 1, by omega, by go_num, hb5, HO5.out⟩
              case measure => simp [intOf]; omega
          · obtain rfl : q = n' := by omega
            have htl : (visOf xs).take q = visOf xs := by rw [← HVL.out, List.take_length]
            have hown' : wr.ownsRow Bi 73 2 u6 (visOf xs).length (vcells (visOf xs)) := by rw [HVL.out]; rw [htl] at hown; exact hown
            have hBiB : w3.heap.size ≤ Bi := by have := HBI.out; omega
            obtain ⟨Av, cv, rfl, hvel⟩ := vel_of_own (B := w3.heap.size) hown' hBiB
            rw [HVL.out] at hvel ⊢
            have hdb' := HDB.out.keep hbq'
            have hrow' := HROW.out.keep hbq'
            have hwB : gB < wC.heap.size := HDB.out.2.2.2
            have hfr' : ∀ i, wr.frozen? ⟨gB, i, none⟩ = false := fun i => (hbq'.frozen (p := ⟨gB, i, none⟩) hwB).trans (HFR.out i)
            have hvl : vals.length = k := by rw [hrow'.2.1, List.length_take, HML.out]; omega
            have y0 := hdb'.1
            have hgr' : w3.grownBy wr (some gB) := HGR.out.andThen (grown_of_below hbq') (fun j hj => by cases hj)
            have hsr : w3.heap.size ≤ wr.heap.size := hgr'.size
            have HVL2 := Lib.hid hvl
            have HROW' := Lib.hid hrow'
            have HDB' := Lib.hid hdb'
            have HFR' := Lib.hid hfr'
            have HVEL := Lib.hid hvel
            have HGR' := Lib.hid hgr'
            have hkm : k < (xss.map visOf).length := by rw [HML.out]; exact hlt
            clear hown hown' htl hdb' hrow' hfr' hvl hvel hql hq hgr'
            go_wp2_with (
              at_builtin
              refine wpList_append_row1 rfl (.tmp 54) (.tmp 56) 34 72 (.slice none 0 0) 24 rfl Tryz.underlying34 Tryz.infoVisRL rfl (by omega) w3.heap.size _ vals rfl (World.ownsRow.alloc HROW'.out.1 _) wr.heap.size (.slice Av q cv) rfl (by rw [World.cell?_alloc_at _ _ _ _ rfl]; rfl) rfl (by rw [HVL2.out]; omega) (by simp; omega) ?_
              rw [HVL2.out]
              intro A5 c5 w5 hrow5 hg5
              have q5 : w5.cell? ⟨gB, 0, none⟩ = some (.slice Ak k ck) := hcell5i (Below.refl _ _) hg5 HDB'.out.1 HROW'.out.1 hgB3
              have f5 : w5.frozen? ⟨gB, 0, none⟩ = false := hfroz5 (Below.refl _ _) hg5 HDB'.out.2.2.2 (HFR'.out 0) HROW'.out.1 hgB3 hsr)
            have HPR := Lib.hid (rof_round HGR'.out hgB3 HFR'.out HDB'.out HROW'.out hkm HMG.out HVEL.out hrow5 hg5)
            clear hrow5 hg5 q5 f5
            go_roundw
            case rel => exact ⟨k + 1, by omega, by go_num, HPR.out.1, HPR.out.2.1, HPR.out.2.2⟩
            case measure => simp [intOf]; omega
      · obtain rfl : k = N := by omega
        have htk : (xss.map visOf).take k = xss.map visOf := by rw [← HML.out, List.take_length]
        rw [htk] at hrow
        obtain ⟨y0, y1, y2, ylt⟩ := hdb
        have hgA1 : g1 < wA.heap.size := rlt
        have hne : ∀ i, some (⟨g1, i, none⟩ : Addr).block ≠ some gB := fun i e => by
          have e1 : g1 = gB := Option.some.inj e
          omega
        have q0 := World.grownBy.cell hgr ((hbA3.cell (p := ⟨g1, 0, none⟩) rlt).trans r0) (hne 0)
        have q1 := World.grownBy.cell hgr ((hbA3.cell (p := ⟨g1, 1, none⟩) rlt).trans r1) (hne 1)
        have q2 := World.grownBy.cell hgr ((hbA3.cell (p := ⟨g1, 2, none⟩) rlt).trans r2) (hne 2)
        have hfz : ∀ i, wr.frozen? ⟨g1, i, none⟩ = false := fun i => by
          have h3 := (hbA3.frozen (p := ⟨g1, i, none⟩) rlt).trans (HRF.out i)
          have h4 := hgr.block g1 (Nat.lt_of_lt_of_le rlt hbA3.size) (hne 0)
          unfold World.frozen? at h3 ⊢
          rw [h4]; exact h3
        have f0 := hfz 0
        have f1 := hfz 1
        have f2 := hfz 2
        obtain ⟨k0, k1, k2⟩ := set3_cells wr g1 (.slice Ak k ck) (.slice S ns sc) (.int .i64 lp) q0 q1 q2
        have hsA := hbA3.size
        have hR := (hrow.set3 (g1 := g1) (by omega) (.slice Ak k ck) (.slice S ns sc) (.int .i64 lp)).rvv
        have hoF := ((hoS3.grown hgr (.inr HSN.out)).set3 (g := g1) (fun e => by have := (World.ownsRow.lt hoS3 g1 e).1; omega) (.slice Ak k ck) (.slice S ns sc) (.int .i64 lp)).ri
        have hs0 := hb0.size
        have hbF := set3_below (grown_below (below_step hb0 hbA3) hgr (by omega) (by omega)) (Nat.le_of_lt hlt1) (.slice Ak k ck) (.slice S ns sc) (.int .i64 lp)
        have hml := HML.out
        have HF : Hid (ROfPost s (xss.map visOf) lp ns w (.returned (dval Ak k ck S ns sc lp)) (set3 wr g1 (.slice Ak k ck) (.slice S ns sc) (.int .i64 lp))) := Lib.hid ⟨Ak, ck, S, sc, by rw [hml], by rw [hml]; exact hR, hoF, hbF⟩
        clear hR hoF hbF hrow hfr htk hlt hk hml hfz hoS3
        go_wp2
        exact bodyPost_ret (v := dval Ak k ck S ns sc lp) (by simp [results, Tryz.results17, go_sem, k0, k1, k2]) rfl HF.out

end Go.Proofs.YtdacjnmfmhkpiaaGreatDoor

/- Walk: the reference's ends of a visit. -/
namespace Go.Proofs.YtdacjnmfmhkpiaaGreatDoor
open Go.RowKit

set_option maxHeartbeats 800000 in
theorem rends_any (c : Nat) (o : Bool) (S : Option Addr) (ns cs : Nat) (s : List Int) (w : World) (hr : RI w S ns s) (hc : c < ns) (hns : ns ≤ 1000) :
    Calls Tryz.prog 54 #[.slice S ns cs, .agg #[.int .i64 (c : Nat), .bool o]] w fun e w' => e = .returned (.tuple #[.int .i64 (outN s c o : Nat), .int .i64 (inN s c o : Nat)]) ∧ Below w.heap.size w w' := by
  obtain ⟨b, off, rfl, hb, hcc⟩ := hr.2 (by omega)
  have z0 : (w.alloc (.cells #[.int .i64 (c : Nat), .bool o] 73)).cell? ⟨b, off + c, none⟩ = some (.int .i64 (s.getD c 0)) := by
    rw [World.cell?_alloc_past _ _ _ hb]; exact hcc _ hc
  have hci : (c : Int) < (ns : Int) := by omega
  clear hcc hr
  cases o with
  | false =>
    have e : outN s c false = 4 * c + 2 := by simp [outN]
    have e2 : inN s c false = 4 * c := by simp [inN]
    rw [e, e2]
    clear e e2 z0
    go_enter Tryz.func54, Tryz.ntmps54
    go_wp2
    go_ret2
    exact ⟨by congr 3, below_alloc _ _⟩
  | true =>
    by_cases h1 : s.getD c 0 = 1
    · have e : outN s c true = 4 * c + 1 := by simp only [outN, h1]; simp
      have e2 : inN s c true = 4 * c + 3 := by simp only [inN, h1]; simp
      rw [e, e2]
      rw [h1] at z0
      clear e e2 h1
      go_enter Tryz.func54, Tryz.ntmps54
      go_wp2
      go_ret2
      exact ⟨by congr 3, below_alloc _ _⟩
    · have e : outN s c true = 4 * c + 3 := by simp only [outN, h1]; simp
      have e2 : inN s c true = 4 * c + 1 := by simp only [inN, h1]; simp
      have h1' : (s.getD c 0 == 1) = false := by simp only [beq_eq_false_iff_ne, ne_eq]; exact h1
      rw [e, e2]
      clear e e2 h1
      generalize s.getD c 0 = x at z0 h1'
      go_enter Tryz.func54, Tryz.ntmps54
      go_wp2
      go_ret2
      exact ⟨by congr 3, below_alloc _ _⟩

end Go.Proofs.YtdacjnmfmhkpiaaGreatDoor

/- Walk: Diagram of a code. -/
namespace Go.Proofs.YtdacjnmfmhkpiaaGreatDoor
open Go.RowKit

theorem RI.set3 {W : World} {A : Option Addr} {n : Nat} {xs : List Int} (h : RI W A n xs) {g : Nat} (hne : ∀ b off, A = some ⟨b, off, none⟩ → g ≠ b) (x y z : Value) : RI (set3 W g x y z) A n xs :=
  ⟨h.1, fun hn => by
    obtain ⟨b, off, e, hlt, hc⟩ := h.2 hn
    refine ⟨b, off, e, ?_, fun j hj => (set3_far W g x y z (hne b off e) _).trans (hc j hj)⟩
    have := (set3_below (Below.refl 0 W) (Nat.zero_le g) x y z).size
    omega⟩
/-- No diagram: why. -/
def DiaNo (k : Int) (w : World) (e : Ending) (w' : World) : Prop := e = .returned (.tuple #[dval none 0 0 none 0 0 0, .int .i64 k]) ∧ Below w.heap.size w w'
def DiaYes (vss : List (List Vis)) (s : List Int) (lp : Int) (ns : Nat) (w : World) (e : Ending) (w' : World) : Prop :=
  ∃ P pc R, e = .returned (.tuple #[dval P ns pc R (4 * ns) (4 * ns) lp, .int .i64 0]) ∧ RI w' P ns s ∧ RI w' R (4 * ns) (mateL s vss) ∧ Below w.heap.size w w'
/-- What Diagram answers. -/
def DiaPost (vss : List (List Vis)) (s : List Int) (lp : Int) (ns : Nat) (w : World) (e : Ending) (w' : World) : Prop :=
  if gvalB vss s lp = false then DiaNo 1 w e w' else if genC vss s ≠ 0 then DiaNo 7 w e w' else DiaYes vss s lp ns w e w'

set_option maxHeartbeats 3200000 in
set_option maxRecDepth 100000 in
theorem gDiagram_any (C S : Option Addr) (nc cc ns cs : Nat) (lp : Int) (vss : List (List Vis)) (s : List Int) (w : World) (hC : RVV w C nc vss) (hS : RI w S ns s) (hns : ns ≤ 1000000) (hnc : nc ≤ 1000000) (hfl : vss.flatten.length ≤ 1000000) :
    Calls Tryz.prog 19 #[dval C nc cc S ns cs lp] w (DiaPost vss s lp ns w) := by
  have hd := (DB.newT w C nc cc S ns cs lp 28).keep (below_alloc _ (.cells #[.slice none 0 0, .slice none 0 0, .int .i64 0] 24))
  have hb0 := below_step (below_alloc w (cbox C nc cc S ns cs lp)) (below_alloc _ (.cells #[.slice none 0 0, .slice none 0 0, .int .i64 0] 24))
  have hr := DB.newT (w.alloc (cbox C nc cc S ns cs lp)) none 0 0 none 0 0 0 24
  have hrf : ∀ i, ((w.alloc (cbox C nc cc S ns cs lp)).alloc (.cells #[.slice none 0 0, .slice none 0 0, .int .i64 0] 24)).frozen? ⟨w.heap.size + 1, i, none⟩ = false := fun i => World.frozen?_alloc_at _ _ _ _ (by simp)
  have hsz : ((w.alloc (cbox C nc cc S ns cs lp)).alloc (.cells #[.slice none 0 0, .slice none 0 0, .int .i64 0] 24)).heap.size = w.heap.size + 2 := by simp
  have hsz1 : (w.alloc (cbox C nc cc S ns cs lp)).heap.size = w.heap.size + 1 := by simp
  rw [hsz1] at hr
  have hls := hS.1
  have HCV : ∀ w1 : World, Below w.heap.size w w1 → Hid (Calls Tryz.prog 21 #[dval C nc cc S ns cs lp] w1 fun e w' => e = .returned (.bool (gvalB vss s lp)) ∧ Below w1.heap.size w1 w') :=
    fun w1 hb => gvalid_any C S nc cc ns cs lp vss s w1 (hC.keep hb) (hS.keep hb) hns hnc hfl
  go_enter Tryz.func19, Tryz.ntmps19
  go_upto_region 1 with fail
  generalize (w.alloc (cbox C nc cc S ns cs lp)).alloc (.cells #[.slice none 0 0, .slice none 0 0, .int .i64 0] 24) = wA at hd hb0 hr hrf hsz ⊢
  obtain ⟨g1, hg1⟩ : ∃ g1, w.heap.size + 1 = g1 := ⟨_, rfl⟩
  rw [hg1] at hr hrf ⊢
  have hlt1 : w.heap.size < g1 := by omega
  clear hg1 hsz hsz1
  have HRF := Lib.hid hrf
  obtain ⟨r0, r1, r2, rlt⟩ := hr
  obtain ⟨d0, d1, d2, dlt⟩ := hd
  clear hrf
  cases h1 : gvalB vss s lp with
  | false =>
    rw [h1] at HCV
    have HP : Hid (∀ e w', DiaNo 1 w e w' → DiaPost vss s lp ns w e w') := fun e w' h => by unfold DiaPost; rw [if_pos h1]; exact h
    clear h1 hC hS hls
    go_wp2_with (go_at_call 21; ((with_reducible refine (HCV _ hb0).out.mono ?_); rintro e w1 ⟨rfl, hb1⟩; have q0 := (hb1.cell (p := ⟨g1, 0, none⟩) rlt).trans r0; have q1 := (hb1.cell (p := ⟨g1, 1, none⟩) rlt).trans r1; have q2 := (hb1.cell (p := ⟨g1, 2, none⟩) rlt).trans r2; have f0 := (hb1.frozen (p := ⟨g1, 0, none⟩) rlt).trans (HRF.out 0); have f1 := (hb1.frozen (p := ⟨g1, 1, none⟩) rlt).trans (HRF.out 1); have f2 := (hb1.frozen (p := ⟨g1, 2, none⟩) rlt).trans (HRF.out 2)))
    obtain ⟨k0, k1, k2⟩ := set3_cells w1 g1 (.slice none 0 0) (.slice none 0 0) (.int .i64 0) q0 q1 q2
    have hbF := set3_below (hb0.trans (hb1.mono hb0.size)) (Nat.le_of_lt hlt1) (.slice none 0 0) (.slice none 0 0) (.int .i64 0)
    exact bodyPost_ret (v := .tuple #[dval none 0 0 none 0 0 0, .int .i64 1]) (by simp [results, Tryz.results19, go_sem, k0, k1, k2]) rfl (HP.out _ _ ⟨rfl, hbF⟩)
  | true =>
    rw [h1] at HCV
    have h64 : ns ≤ 64 := by
      have h2 := h1
      unfold gvalB at h2
      simp only [Bool.and_eq_true] at h2
      have := (glimB_out h2.1.1).1
      omega
    have HC2 : ∀ w1 : World, Below w.heap.size w w1 → Hid (Calls Tryz.prog 46 #[dval C nc cc S ns cs lp] w1 fun e w' => ∃ g, w1.heap.size ≤ g ∧ e = .returned (.slice (some ⟨g, 0, none⟩) (4 * ns) (4 * ns)) ∧ RI w' (some ⟨g, 0, none⟩) (4 * ns) (mateL s vss) ∧ Below w1.heap.size w1 w') :=
      fun w1 hb => matesC_any (hC.keep hb) (hS.keep hb) h1
    have HC3 : ∀ (w1 : World) (g : Nat), RI w1 (some ⟨g, 0, none⟩) (4 * ns) (mateL s vss) → Hid (Calls Tryz.prog 47 #[.slice (some ⟨g, 0, none⟩) (4 * ns) (4 * ns)] w1 fun e w' => e = .returned (.int .i64 (genC vss s)) ∧ Below w1.heap.size w1 w') :=
      fun w1 g hm => genusC_any hls hm h1
    have CC : ∀ W : World, Below w.heap.size w W → Hid (Calls Tryz.prog 34 #[.slice S ns cs] W (ClPost W ns s)) := fun W hb => sclone_any S ns cs s W (hS.keep hb) (by omega)
    by_cases hg : genC vss s = 0
    · have HP : Hid (∀ e w', DiaYes vss s lp ns w e w' → DiaPost vss s lp ns w e w') := fun e w' h => by unfold DiaPost; rw [if_neg (by rw [h1]; simp), if_neg (by simp [hg])]; exact h
      rw [hg] at HC3
      clear h1 hC hS hls hg
      go_upto_region 6 with (first
        | (go_at_call 21; ((with_reducible refine (HCV _ hb0).out.mono ?_); rintro e w1 ⟨rfl, hb1⟩; have hb01 := below_step hb0 hb1; have c0 := (hb1.cell (p := ⟨w.heap.size, 0, none⟩) dlt).trans d0; have c1 := (hb1.cell (p := ⟨w.heap.size, 1, none⟩) dlt).trans d1; have c2 := (hb1.cell (p := ⟨w.heap.size, 2, none⟩) dlt).trans d2))
        | (go_at_call 46; ((with_reducible refine (HC2 _ hb01).out.mono ?_); rintro e w2 ⟨gR, hgR, rfl, hri, hb2⟩))
        | (go_at_call 47; ((with_reducible refine (HC3 _ _ hri).out.mono ?_); rintro e w3 ⟨rfl, hb3⟩)))
      have hbX := below_step hb01 (below_step hb2 hb3)
      have hb13 := below_step hb2 hb3
      have hbA3 := below_step hb1 hb13
      have e1 := (hb13.cell (p := ⟨w.heap.size, 1, none⟩) (Nat.lt_of_lt_of_le dlt hb1.size)).trans c1
      have e2 := (hb13.cell (p := ⟨w.heap.size, 2, none⟩) (Nat.lt_of_lt_of_le dlt hb1.size)).trans c2
      have elt := Nat.lt_of_lt_of_le dlt hbA3.size
      have s0 := (hbA3.cell (p := ⟨g1, 0, none⟩) rlt).trans r0
      have s1 := (hbA3.cell (p := ⟨g1, 1, none⟩) rlt).trans r1
      have s2 := (hbA3.cell (p := ⟨g1, 2, none⟩) rlt).trans r2
      have hsf : ∀ i, w3.frozen? ⟨g1, i, none⟩ = false := fun i => (hbA3.frozen (p := ⟨g1, i, none⟩) rlt).trans (HRF.out i)
      have slt := Nat.lt_of_lt_of_le rlt hbA3.size
      have hgR1 : g1 < gR := Nat.lt_of_lt_of_le rlt (Nat.le_trans hb1.size hgR)
      have HRI := Lib.hid (hri.keep hb3)
      have HSF := Lib.hid hsf
      have CC' : ∀ W : World, Below w3.heap.size w3 W → Hid (Calls Tryz.prog 34 #[.slice S ns cs] W (ClPost W ns s)) := fun W hb => CC W (below_step hbX hb)
      have hbD : Below w3.heap.size w3 w3.drew := (Below.refl _ _).drew
      clear hri hsf r0 r1 r2 d0 d1 d2 c0 c1 c2 HRF CC HCV HC2 HC3
      go_region_held3 (fun w' => w'.cell? ⟨w.heap.size, 1, none⟩ = some (.slice S ns cs) ∧ w'.cell? ⟨w.heap.size, 2, none⟩ = some (.int .i64 lp))
        (first
          | go_keep
          | with_reducible exact ⟨(hbB.cell (p := ⟨w.heap.size, 1, none⟩) elt).trans e1, (hbB.cell (p := ⟨w.heap.size, 2, none⟩) elt).trans e2⟩
          | with_reducible exact ⟨(set3_far w4 g1 _ _ _ (Nat.ne_of_gt hlt1) 1).trans ((hbB.cell (p := ⟨w.heap.size, 1, none⟩) elt).trans e1), (set3_far w4 g1 _ _ _ (Nat.ne_of_gt hlt1) 2).trans ((hbB.cell (p := ⟨w.heap.size, 2, none⟩) elt).trans e2)⟩)
        (first
          | (go_at_call 34; ((with_reducible refine (CC' _ hbD).out.mono ?_); rintro e w4 ⟨P, pc, rfl, ho1, hb4⟩; have hbB := below_step hbD hb4; have q0 := (hbB.cell (p := ⟨g1, 0, none⟩) slt).trans s0; have q1 := (hbB.cell (p := ⟨g1, 1, none⟩) slt).trans s1; have q2 := (hbB.cell (p := ⟨g1, 2, none⟩) slt).trans s2; have f0 := (hbB.frozen (p := ⟨g1, 0, none⟩) slt).trans (HSF.out 0); have f1 := (hbB.frozen (p := ⟨g1, 1, none⟩) slt).trans (HSF.out 1); have f2 := (hbB.frozen (p := ⟨g1, 2, none⟩) slt).trans (HSF.out 2))))
      all_goals
        obtain ⟨k0, k1, k2⟩ := set3_cells w4 g1 (.slice P ns pc) (.slice (some ⟨gR, 0, none⟩) (4 * ns) (4 * ns)) (.int .i64 lp) q0 q1 q2
        have hbF := set3_below (hbX.trans (hbB.mono hbX.size)) (Nat.le_of_lt hlt1) (.slice P ns pc) (.slice (some ⟨gR, 0, none⟩) (4 * ns) (4 * ns)) (.int .i64 lp)
        have hr1 := (HRI.out.keep hbB).set3 (g := g1) (fun b off e => by have := Option.some.inj e; injection this with e1 _ _; omega) (.slice P ns pc) (.slice (some ⟨gR, 0, none⟩) (4 * ns) (4 * ns)) (.int .i64 lp)
        have hr2 := ho1.ri.set3 (g := g1) (fun b off e => by
          rcases ho1.form with ⟨h1, _⟩ | ⟨g, cap, h1, h2, _⟩
          · injection h1 with h1 _ _; rw [h1] at e; cases e
          · injection h1 with h1 _ _; rw [h1] at e
            have := Option.some.inj e
            injection this with e1 _ _
            have h3 : w3.heap.size ≤ w3.drew.heap.size := Nat.le_refl _
            omega) (.slice P ns pc) (.slice (some ⟨gR, 0, none⟩) (4 * ns) (4 * ns)) (.int .i64 lp)
        have HQ := Lib.hid (HP.out (.returned (.tuple #[dval P ns pc (some ⟨gR, 0, none⟩) (4 * ns) (4 * ns) lp, .int .i64 0])) (Go.Proofs.YtdacjnmfmhkpiaaGreatDoor.set3 w4 g1 (.slice P ns pc) (.slice (some ⟨gR, 0, none⟩) (4 * ns) (4 * ns)) (.int .i64 lp)) ⟨P, pc, some ⟨gR, 0, none⟩, rfl, hr2, hr1, hbF⟩)
        clear hbF hr1 hr2
        go_wp2
        exact bodyPost_ret (v := .tuple #[dval P ns pc (some ⟨gR, 0, none⟩) (4 * ns) (4 * ns) lp, .int .i64 0]) (by simp [results, Tryz.results19, go_sem, k0, k1, k2]) rfl HQ.out
    · have HP : Hid (∀ e w', DiaNo 7 w e w' → DiaPost vss s lp ns w e w') := fun e w' h => by unfold DiaPost; rw [if_neg (by rw [h1]; simp), if_pos hg]; exact h
      have hgn : (genC vss s != 0) = true := by simp only [bne_iff_ne, ne_eq]; exact hg
      generalize genC vss s = gg at *
      clear h1 hC hS hls hg CC
      go_wp2_with (first
        | (go_at_call 21; ((with_reducible refine (HCV _ hb0).out.mono ?_); rintro e w1 ⟨rfl, hb1⟩; have hb01 := below_step hb0 hb1; have c0 := (hb1.cell (p := ⟨w.heap.size, 0, none⟩) dlt).trans d0; have c1 := (hb1.cell (p := ⟨w.heap.size, 1, none⟩) dlt).trans d1; have c2 := (hb1.cell (p := ⟨w.heap.size, 2, none⟩) dlt).trans d2))
        | (go_at_call 46; ((with_reducible refine (HC2 _ hb01).out.mono ?_); rintro e w2 ⟨gR, hgR, rfl, hri, hb2⟩))
        | (go_at_call 47; ((with_reducible refine (HC3 _ _ hri).out.mono ?_); rintro e w3 ⟨rfl, hb3⟩; have hbA3 := below_step hb1 (below_step hb2 hb3); have q0 := (hbA3.cell (p := ⟨g1, 0, none⟩) rlt).trans r0; have q1 := (hbA3.cell (p := ⟨g1, 1, none⟩) rlt).trans r1; have q2 := (hbA3.cell (p := ⟨g1, 2, none⟩) rlt).trans r2; have f0 := (hbA3.frozen (p := ⟨g1, 0, none⟩) rlt).trans (HRF.out 0); have f1 := (hbA3.frozen (p := ⟨g1, 1, none⟩) rlt).trans (HRF.out 1); have f2 := (hbA3.frozen (p := ⟨g1, 2, none⟩) rlt).trans (HRF.out 2))))
      obtain ⟨k0, k1, k2⟩ := set3_cells w3 g1 (.slice none 0 0) (.slice none 0 0) (.int .i64 0) q0 q1 q2
      have hbF := set3_below (hb0.trans (hbA3.mono hb0.size)) (Nat.le_of_lt hlt1) (.slice none 0 0) (.slice none 0 0) (.int .i64 0)
      exact bodyPost_ret (v := .tuple #[dval none 0 0 none 0 0 0, .int .i64 7]) (by simp [results, Tryz.results19, go_sem, k0, k1, k2]) rfl (HP.out _ _ ⟨rfl, hbF⟩)

end Go.Proofs.YtdacjnmfmhkpiaaGreatDoor
