/- Walks: slices.Clone, slices.Equal, Clone, Equal; the reference's Copy and Equal. -/
import Derived.Test.YtcllnoigppkjiaaInts
import Derived.ProofKit
namespace Go.Proofs.Ytcllnoigppkjiaa
open Go.ChangeShapes Go.WideShapes Go.ChangeAt Go.RowKit

/-- append of a slice that reads as a list to a slice of the call's own. -/
theorem wpList_append_ints {ops : Array Oper} {rest : List Oper} {o : Oper} {a : Act} {w : World} {Q : Exit → Act → World → Prop} (hgd : o.guard = none) (s x : Operand)
    (ho : o.op = .call { callee := .builtin .append, args := #[s, x], argTypes := #[22, 22] }) (B : Nat) (v : Value) (xs : List Int) (hs : a.eval s = v) (hown : OI w B v xs)
    (ad : Addr) (n c : Nat) (ys : List Int) (hx : a.eval x = .slice (some ad) n c) (hr : RI w (some ad) n ys) (hlen : xs.length + n ≤ 1000000000) (hbase : B ≤ w.heap.size)
    (h : ∀ v' w', OI w' B v' (xs ++ ys) → w.grownBy w' v.ownBlock → (v' = .slice none 0 0 → v = .slice none 0 0) → wpList Try.prog ops Q rest (a.put o.dst v') w') : wpList Try.prog ops Q (o :: rest) a w := by
  obtain ⟨i0, hi, hz0, hz1, hz2⟩ := info_parts Try.infoInt
  have hl := hr.1
  refine wpList_append_own w hgd s x 22 ho B 3 i0 (.int .i64 0) 1 8 Try.underlying22 hi hz0 hz1 hz2 rfl (by decide) v xs.length (ints xs) hs hown ad n c (ints ys) hx (by simp [ints, hl]) ?_ ?_ (by unfold maxLen; omega) (by omega) hbase ?_
  · intro j u hj
    have hjn : j < ys.length := by
      have := (List.getElem?_eq_some_iff.1 hj).1
      simpa [ints] using this
    obtain ⟨b, off, e, _, hc⟩ := hr.2 (by omega)
    injection e with e
    subst e
    rw [add_plain, hc j (by omega)]
    simp [ints, hjn] at hj
    rw [← hj]
    simp [List.getD, hjn]
  · intro u hu
    simp [ints] at hu
    obtain ⟨z, _, rfl⟩ := hu
    rfl
  · intro v' w' h1 h2 h3
    refine h v' w' ?_ h2 (fun e => (h3.1 e).1)
    unfold OI
    simpa [ints, hl] using h1

def ClPost (w : World) (n : Nat) (xs : List Int) (e : Ending) (w' : World) : Prop := ∃ A c, e = .returned (.slice A n c) ∧ OI w' w.heap.size (.slice A n c) xs ∧ Below w.heap.size w w'
theorem OI.empty (w : World) (B : Nat) (hB : B ≤ w.heap.size) : OI (w.alloc (.cells #[] 3)) B (.slice (some ⟨w.heap.size, 0, none⟩) 0 0) [] :=
  World.ownsRow_lit w #[] 0 hB (by simp [maxLen]) rfl

set_option maxHeartbeats 800000 in
theorem sclone_any (A : Option Addr) (n c : Nat) (xs : List Int) (w : World) (hr : RI w A n xs) (hn : n ≤ 1000000) :
    Calls Try.prog 42 #[.slice A n c] w (ClPost w n xs) := by
  cases A with
  | none =>
    obtain rfl : n = 0 := by
      rcases Nat.eq_zero_or_pos n with h0 | h0
      · exact h0
      · obtain ⟨b, off, e, _⟩ := hr.2 h0
        cases e
    have hx : xs = [] := List.length_eq_zero_iff.1 hr.1
    subst hx
    clear hr
    have hnl := fun (W : World) => Lib.run_eql_slice_nil (P := Try.prog) W 22 3 none 0 c 0 0 Try.underlying22
    go_enter Try.func42, Try.ntmps42
    go_wp2
    go_ret
    exact ⟨_, _, rfl, OI.nil _ _, Below.refl _ _⟩
  | some ad =>
    have h0 := OI.empty w w.heap.size (Nat.le_refl _)
    have hb0 := below_alloc w (.cells #[] 3)
    have hr1 := hr.alloc (.cells #[] 3)
    have hl := hr.1
    have HL := Lib.hid hl
    have hnl := fun (W : World) => Lib.run_eql_slice_nil (P := Try.prog) W 22 3 (some ad) n c 0 0 Try.underlying22
    clear hr hl
    go_enter Try.func42, Try.ntmps42
    go_wp2_with (at_builtin
                 refine wpList_append_ints rfl (.tmp 5) (.tmp 6) rfl w.heap.size (.slice (some ⟨w.heap.size, 0, none⟩) 0 0) [] rfl h0 ad n c xs rfl hr1 (by simp; omega) hb0.size ?_
                 intro v2 w2 hown2 hg2 hnn)
    have hb2 : Below w.heap.size w w2 := hb0.grown hg2 hb0.size (fun k hk => by simp [Value.ownBlock] at hk; omega)
    have hform : ∃ A' c', v2 = .slice A' n c' := by
      rcases hown2.form with ⟨e, he⟩ | ⟨g, cap, e, _⟩
      · have := hnn e; cases this
      · exact ⟨some ⟨g, 0, none⟩, cap, by rw [e]; simp [HL.out]⟩
    obtain ⟨A', c', rfl⟩ := hform
    go_ret
    exact ⟨A', c', rfl, by simpa using hown2, hb2⟩

set_option maxHeartbeats 800000 in
theorem sequal_r (r : Bool) (A B : Option Addr) (n c m d : Nat) (xs ys : List Int) (w : World) (hx : RI w A n xs) (hy : RI w B m ys) (hn : n ≤ 1000000000000000) (hm : m ≤ 1000000000000000) (hr : r = decide (xs = ys)) :
    Calls Try.prog 43 #[.slice A n c, .slice B m d] w fun e w' => e = .returned (.bool r) ∧ Below w.heap.size w w' := by
  have hlx := hx.1
  have hly := hy.1
  by_cases hnm : n = m
  · subst hnm
    have HLX := Lib.hid hlx
    have HLY := Lib.hid hly
    have HR := Lib.hid hr
    have HE : Hid (∀ j, j < 0 → xs.getD j 0 = ys.getD j 0) := fun j hj => absurd hj (by omega)
    clear hlx hly hr
    go_enter Try.func43, Try.ntmps43
    go_wp2
    go_loopw [5, 13] (fun _ i wr => ∃ k : Nat, k ≤ n ∧ i = .int .i64 k ∧ Below w.heap.size w wr ∧ Hid (∀ j, j < k → xs.getD j 0 = ys.getD j 0)) (fun _ i _ => n - (intOf i).toNat)
    case atStart => exact ⟨0, by omega, rfl, Below.refl _ _, HE⟩
    case round =>
      obtain ⟨k, hk, rfl, hbr, hall⟩ := hrel
      by_cases hlt : k < n
      · obtain ⟨b, off, rfl, hb, hc⟩ := (hx.keep hbr).2 (by omega)
        obtain ⟨b', off', rfl, hb', hc'⟩ := (hy.keep hbr).2 (by omega)
        have h1 := hc k hlt
        have h2 := hc' k hlt
        have hk0 : (0 : Int) ≤ (k : Int) := Int.natCast_nonneg _
        have hk1 : (k : Int) < (n : Int) := by omega
        by_cases he : xs.getD k 0 = ys.getD k 0
        · have hall' : Hid (∀ j, j < k + 1 → xs.getD j 0 = ys.getD j 0) := fun j hj => by
            by_cases e : j = k
            · subst e; exact he
            · exact hall.out j (by omega)
          rw [← he] at h2
          clear hx hy hc hc' he
          generalize xs.getD k 0 = x at *
          go_wp2
          go_quiet (fail)
          go_wp2
          go_roundw
          case rel => exact ⟨k + 1, by omega, by go_num, below_drewN hbr _, hall'⟩
          case measure => simp [intOf]; omega
        · have hne : (xs.getD k 0 != ys.getD k 0) = true := by simp only [bne_iff_ne, ne_eq]; exact he
          have hrf : r = false := by
            rw [HR.out, decide_eq_false_iff_not]
            intro e; exact he (by rw [e])
          subst hrf
          clear hx hy hc hc' he HR
          generalize xs.getD k 0 = x at *
          generalize ys.getD k 0 = y at *
          go_wp2
          go_quiet (fail)
          go_wp2
          go_ret
          exact ⟨rfl, below_drewN hbr _⟩
      · obtain rfl : k = n := by omega
        have hrt : r = true := by
          rw [HR.out, decide_eq_true_eq]
          exact eq_of_getD (by rw [HLX.out, HLY.out]) (fun j hj => hall.out j (by rw [← HLX.out]; exact hj))
        subst hrt
        clear hx hy HR
        go_wp2
        go_ret
        exact ⟨rfl, hbr⟩
  · have hrf : r = false := by
      rw [hr, decide_eq_false_iff_not]
      intro e; rw [e] at hlx; omega
    subst hrf
    have hne : ((n : Int) != (m : Int)) = true := by simp only [bne_iff_ne, ne_eq]; omega
    clear hx hy hlx hly hr hnm
    go_enter Try.func43, Try.ntmps43
    go_wp2
    go_ret
    exact ⟨rfl, Below.refl _ _⟩

/-- What Clone returns: a diagram whose slices are new. -/
def ClonePost (w : World) (ns nm : Nat) (lp : Int) (signs mate : List Int) (e : Ending) (w' : World) : Prop :=
  ∃ A cs B cm, e = .returned (dval A ns cs B nm cm lp) ∧ OI w' w.heap.size (.slice A ns cs) signs ∧ OI w' w.heap.size (.slice B nm cm) mate ∧
    ((Value.slice A ns cs).ownBlock = none ∨ (Value.slice A ns cs).ownBlock ≠ (Value.slice B nm cm).ownBlock) ∧ Below w.heap.size w w'

theorem OI.block_ne {w w' : World} {B : Nat} {A A' : Option Addr} {n c n' c' : Nat} {xs ys : List Int} (h : OI w B (.slice A n c) xs) (k : OI w' w.heap.size (.slice A' n' c') ys) :
    (Value.slice A n c).ownBlock = none ∨ (Value.slice A n c).ownBlock ≠ (Value.slice A' n' c').ownBlock := by
  cases hg : (Value.slice A n c).ownBlock with
  | none => exact .inl rfl
  | some g =>
    refine .inr fun e => ?_
    have h1 := (World.ownsRow.lt h g hg).2
    have h2 := (World.ownsRow.lt k g e.symm).1
    omega

abbrev set3 (W : World) (g : Nat) (a b c : Value) : World := ((W.setCell ⟨g, 0, none⟩ a).setCell ⟨g, 1, none⟩ b).setCell ⟨g, 2, none⟩ c
theorem set3_far (W : World) (g : Nat) (a b c : Value) {h : Nat} (hne : g ≠ h) (i : Nat) : (set3 W g a b c).cell? ⟨h, i, none⟩ = W.cell? ⟨h, i, none⟩ := by
  unfold set3
  rw [World.cell?_setCell_other _ _ _ _ (by simp), World.cell?_setCell_other _ _ _ _ (by simp), World.cell?_setCell_other _ _ _ _ (by simp)]
theorem set3_cells (W : World) (g : Nat) (a b c : Value) {u0 u1 u2 : Value} (q0 : W.cell? ⟨g, 0, none⟩ = some u0) (q1 : W.cell? ⟨g, 1, none⟩ = some u1) (q2 : W.cell? ⟨g, 2, none⟩ = some u2) :
    (set3 W g a b c).cell? ⟨g, 0, none⟩ = some a ∧ (set3 W g a b c).cell? ⟨g, 1, none⟩ = some b ∧ (set3 W g a b c).cell? ⟨g, 2, none⟩ = some c := by
  unfold set3
  refine ⟨?_, ?_, ?_⟩
  · rw [World.cell?_setCell_other _ _ _ _ (by simp), World.cell?_setCell_other _ _ _ _ (by simp), World.cell?_setCell_same _ _ _ q0]
  · have h1 : (W.setCell ⟨g, 0, none⟩ a).cell? ⟨g, 1, none⟩ = some u1 := by rw [World.cell?_setCell_other _ _ _ _ (by simp)]; exact q1
    rw [World.cell?_setCell_other _ _ _ _ (by simp), World.cell?_setCell_same _ _ _ h1]
  · have h2 : ((W.setCell ⟨g, 0, none⟩ a).setCell ⟨g, 1, none⟩ b).cell? ⟨g, 2, none⟩ = some u2 := by rw [World.cell?_setCell_other _ _ _ _ (by simp), World.cell?_setCell_other _ _ _ _ (by simp)]; exact q2
    rw [World.cell?_setCell_same _ _ _ h2]
theorem set3_below {B : Nat} {a W : World} (h : Below B a W) {g : Nat} (hg : B ≤ g) (x y z : Value) : Below B a (set3 W g x y z) := below_set (below_set (below_set h hg _) hg _) hg _
theorem OI.set3 {W : World} {B : Nat} {v : Value} {xs : List Int} (h : OI W B v xs) {g : Nat} (hg : v.ownBlock ≠ some g) (x y z : Value) : OI (set3 W g x y z) B v xs := ((h.far (p := ⟨g, 0, none⟩) hg _).far (p := ⟨g, 1, none⟩) hg _).far (p := ⟨g, 2, none⟩) hg _

set_option maxHeartbeats 3200000 in
theorem clone_any (A B : Option Addr) (ns cs nm cm : Nat) (lp : Int) (signs mate : List Int) (w : World) (hs : RI w A ns signs) (hm : RI w B nm mate) (hns : ns ≤ 1000) (hnm : nm ≤ 1000) :
    Calls Try.prog 14 #[dval A ns cs B nm cm lp] w (ClonePost w ns nm lp signs mate) := by
  have hd := (DB.new w A ns cs B nm cm lp).keep (below_alloc _ (.cells #[.slice none 0 0, .slice none 0 0, .int .i64 0] 24))
  have hb0 := below_step (below_alloc w (dbox A ns cs B nm cm lp)) (below_alloc _ (.cells #[.slice none 0 0, .slice none 0 0, .int .i64 0] 24))
  have hr := DB.new (w.alloc (dbox A ns cs B nm cm lp)) none 0 0 none 0 0 0
  have hrf : ∀ i, ((w.alloc (dbox A ns cs B nm cm lp)).alloc (.cells #[.slice none 0 0, .slice none 0 0, .int .i64 0] 24)).frozen? ⟨w.heap.size + 1, i, none⟩ = false := fun i => World.frozen?_alloc_at _ _ _ _ (by simp)
  have hsz : ((w.alloc (dbox A ns cs B nm cm lp)).alloc (.cells #[.slice none 0 0, .slice none 0 0, .int .i64 0] 24)).heap.size = w.heap.size + 2 := by simp
  have hsz1 : (w.alloc (dbox A ns cs B nm cm lp)).heap.size = w.heap.size + 1 := by simp
  rw [hsz1] at hr
  go_enter Try.func14, Try.ntmps14
  go_wp2
  generalize (w.alloc (dbox A ns cs B nm cm lp)).alloc (.cells #[.slice none 0 0, .slice none 0 0, .int .i64 0] 24) = wA at hd hb0 hr hrf hsz ⊢
  obtain ⟨g1, hg1⟩ : ∃ g1, w.heap.size + 1 = g1 := ⟨_, rfl⟩
  rw [hg1] at hr hrf ⊢
  have hlt1 : w.heap.size < g1 := by omega
  have hltA : g1 < wA.heap.size := by omega
  clear hg1 hsz hsz1
  obtain ⟨d0, d1, d2, dlt⟩ := hd
  obtain ⟨r0, r1, r2, rlt⟩ := hr
  have hs1 := hs.keep hb0
  have hm1 := hm.keep hb0
  have HRF := Lib.hid hrf
  have CA : ∀ W : World, Below wA.heap.size wA W → Hid (Calls Try.prog 42 #[.slice A ns cs] W (ClPost W ns signs)) := fun W hb => sclone_any A ns cs signs W (hs1.keep hb) (by omega)
  have CB : ∀ W : World, Below wA.heap.size wA W → Hid (Calls Try.prog 42 #[.slice B nm cm] W (ClPost W nm mate)) := fun W hb => sclone_any B nm cm mate W (hm1.keep hb) (by omega)
  have hbD : Below wA.heap.size wA wA.drew := (Below.refl _ _).drew
  clear hs hm hs1 hm1 hrf
  go_region_held3 (fun w' => w'.cell? ⟨w.heap.size, 0, none⟩ = some (.slice A ns cs) ∧ w'.cell? ⟨w.heap.size, 1, none⟩ = some (.slice B nm cm) ∧ w'.cell? ⟨w.heap.size, 2, none⟩ = some (.int .i64 lp))
    (first
      | go_keep
      | exact ⟨(set3_far w3 g1 _ _ _ (Nat.ne_of_gt hlt1) 0).trans ((hbC.cell (p := ⟨w.heap.size, 0, none⟩) dlt).trans d0), (set3_far w3 g1 _ _ _ (Nat.ne_of_gt hlt1) 1).trans ((hbC.cell (p := ⟨w.heap.size, 1, none⟩) dlt).trans d1), (set3_far w3 g1 _ _ _ (Nat.ne_of_gt hlt1) 2).trans ((hbC.cell (p := ⟨w.heap.size, 2, none⟩) dlt).trans d2)⟩
      | exact ⟨(hbC.cell (p := ⟨w.heap.size, 0, none⟩) dlt).trans d0, (hbC.cell (p := ⟨w.heap.size, 1, none⟩) dlt).trans d1, (hbC.cell (p := ⟨w.heap.size, 2, none⟩) dlt).trans d2⟩
      | exact ⟨(hbB.cell (p := ⟨w.heap.size, 0, none⟩) dlt).trans d0, (hbB.cell (p := ⟨w.heap.size, 1, none⟩) dlt).trans d1, (hbB.cell (p := ⟨w.heap.size, 2, none⟩) dlt).trans d2⟩)
    (first
      | (go_at_call 42; ((with_reducible refine (CA _ hbD).out.mono ?_); rintro e w2 ⟨A1, c1, rfl, ho1, hb1⟩; have hbB := below_step hbD hb1))
      | (go_at_call 42; ((with_reducible refine (CB _ hbB).out.mono ?_); rintro e w3 ⟨B1, m1, rfl, ho2, hb2⟩; have hbC := below_step hbB hb2; have q0 := (hbC.cell (p := ⟨g1, 0, none⟩) rlt).trans r0; have q1 := (hbC.cell (p := ⟨g1, 1, none⟩) rlt).trans r1; have q2 := (hbC.cell (p := ⟨g1, 2, none⟩) rlt).trans r2; have f0 := (hbC.frozen (p := ⟨g1, 0, none⟩) rlt).trans (HRF.out 0); have f1 := (hbC.frozen (p := ⟨g1, 1, none⟩) rlt).trans (HRF.out 1); have f2 := (hbC.frozen (p := ⟨g1, 2, none⟩) rlt).trans (HRF.out 2))))
  obtain ⟨k0, k1, k2⟩ := set3_cells w3 g1 (.slice A1 ns c1) (.slice B1 nm m1) (.int .i64 lp) q0 q1 q2
  have n1 : (Value.slice A1 ns c1).ownBlock ≠ some g1 := fun e => by have := (World.ownsRow.lt ho1 g1 e).1; have := hbD.size; omega
  have n2 : (Value.slice B1 nm m1).ownBlock ≠ some g1 := fun e => by have := (World.ownsRow.lt ho2 g1 e).1; have := hbB.size; omega
  have o1 := ((ho1.keep hb2).set3 n1 (.slice A1 ns c1) (.slice B1 nm m1) (.int .i64 lp)).mono (B' := w.heap.size) (Nat.le_trans hb0.size hbD.size)
  have o2 := (ho2.set3 n2 (.slice A1 ns c1) (.slice B1 nm m1) (.int .i64 lp)).mono (B' := w.heap.size) (Nat.le_trans hb0.size hbB.size)
  have hne := ho1.block_ne ho2
  have hbF := set3_below (hb0.trans (hbC.mono hb0.size)) (Nat.le_of_lt hlt1) (.slice A1 ns c1) (.slice B1 nm m1) (.int .i64 lp)
  have HF := Lib.hid (show ClonePost w ns nm lp signs mate (.returned (dval A1 ns c1 B1 nm m1 lp)) (set3 w3 g1 (.slice A1 ns c1) (.slice B1 nm m1) (.int .i64 lp)) from ⟨A1, c1, B1, m1, rfl, o1, o2, hne, hbF⟩)
  clear o1 o2 hne hbF n1 n2 ho1 ho2
  go_wp2
  exact bodyPost_ret (v := dval A1 ns c1 B1 nm m1 lp) (by simp [results, Try.results14, go_sem, k0, k1, k2]) rfl HF.out

end Go.Proofs.Ytcllnoigppkjiaa
