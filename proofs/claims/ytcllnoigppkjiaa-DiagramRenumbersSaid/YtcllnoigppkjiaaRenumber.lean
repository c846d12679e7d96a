/- Walk: Renumber. -/
import Derived.Test.YtcllnoigppkjiaaInverse
import Derived.Test.YtcllnoigppkjiaaClone
import Derived.Test.YtcllnoigppkjiaaRenLists
import Derived.Test.YtcllnoigppkjiaaRenValid
import Derived.Test.YtcllnoigppkjiaaApart
import Derived.StillTailTactics
namespace Go.Proofs.Ytcllnoigppkjiaa
open Go.RowKit

def RenPost (s m o : List Int) (lp : Int) (ns nm : Nat) (w : World) (e : Ending) (w' : World) : Prop :=
  Below w.heap.size w w' ∧
  ((validB s m lp = false ∧ e = .returned (.tuple #[dval none 0 0 none 0 0 0, .int .i64 1])) ∨
   (validB s m lp = true ∧ ¬ IsOrd o ns ∧ e = .returned (.tuple #[dval none 0 0 none 0 0 0, .int .i64 2])) ∨
   (validB s m lp = true ∧ IsOrd o ns ∧ ∃ P pc R rc, e = .returned (.tuple #[dval P ns pc R nm rc lp, .int .i64 0]) ∧ OI w' w.heap.size (.slice P ns pc) (renS s o ns) ∧ OI w' w.heap.size (.slice R nm rc) (renM (matesOf m) o ns)))

theorem DB.grown {w w' : World} {g q : Nat} {A : Option Addr} {ns cs : Nat} {B : Option Addr} {nm cm : Nat} {lp : Int} (h : DB w g A ns cs B nm cm lp) (hg : w.grownBy w' (some q)) (hne : g ≠ q) : DB w' g A ns cs B nm cm lp := by
  have hn : ∀ i, some (⟨g, i, none⟩ : Addr).block ≠ some q := fun i e => by injection e with e; exact hne e
  exact ⟨World.grownBy.cell hg h.1 (hn 0), World.grownBy.cell hg h.2.1 (hn 1), World.grownBy.cell hg h.2.2.1 (hn 2), Nat.lt_of_lt_of_le h.2.2.2 hg.size⟩

set_option maxHeartbeats 6400000 in
set_option maxRecDepth 100000 in
theorem renumber_any (A B C : Option Addr) (ns cs nm cm no co : Nat) (lp : Int) (s m o : List Int) (w : World) (h : DV w A ns B nm s m) (ho : RI w C no o) (hns : ns ≤ 1000) (hno : no ≤ 1000) (hoI : ∀ j, j < no → -9223372036854775808 ≤ o.getD j 0 ∧ o.getD j 0 ≤ 9223372036854775807) :
    Calls Try.prog 36 #[dval A ns cs B nm cm lp, .slice C no co] w (RenPost s m o lp ns nm w) := by
  have hd := (DB.new w A ns cs B nm cm lp).keep (below_alloc _ (.cells #[.slice none 0 0, .slice none 0 0, .int .i64 0] 24))
  have hb0 := below_step (below_alloc w (dbox A ns cs B nm cm lp)) (below_alloc _ (.cells #[.slice none 0 0, .slice none 0 0, .int .i64 0] 24))
  have hr := DB.new (w.alloc (dbox A ns cs B nm cm lp)) none 0 0 none 0 0 0
  have hrf : ∀ i, ((w.alloc (dbox A ns cs B nm cm lp)).alloc (.cells #[.slice none 0 0, .slice none 0 0, .int .i64 0] 24)).frozen? ⟨w.heap.size + 1, i, none⟩ = false := fun i => World.frozen?_alloc_at _ _ _ _ (by simp)
  have hsz : ((w.alloc (dbox A ns cs B nm cm lp)).alloc (.cells #[.slice none 0 0, .slice none 0 0, .int .i64 0] 24)).heap.size = w.heap.size + 2 := by simp
  have hsz1 : (w.alloc (dbox A ns cs B nm cm lp)).heap.size = w.heap.size + 1 := by simp
  rw [hsz1] at hr
  go_enter Try.func36, Try.ntmps36
  go_wp2_with fail
  generalize (w.alloc (dbox A ns cs B nm cm lp)).alloc (.cells #[.slice none 0 0, .slice none 0 0, .int .i64 0] 24) = wA at hd hb0 hr hrf hsz ⊢
  obtain ⟨g1, hg1⟩ : ∃ g1, w.heap.size + 1 = g1 := ⟨_, rfl⟩
  rw [hg1] at hr hrf ⊢
  have hlt1 : w.heap.size < g1 := by omega
  have hltA : g1 < wA.heap.size := by omega
  clear hg1 hsz hsz1
  have HRF := Lib.hid hrf
  have H := Lib.hid (h.keep hb0)
  have HO := Lib.hid (ho.keep hb0)
  obtain ⟨r0, r1, r2, rlt⟩ := hr
  have hls := h.hs.1
  have hlm := h.hm.1
  have HOI := Lib.hid hoI
  clear hrf h ho hoI
  cases hv : validB s m lp with
  | false =>
    have CV := Lib.hid (H.out.valid cs cm lp false hv)
    have HV := Lib.hid hv
    clear hv hls hlm hd
    refine (CV.out).mono ?_
    rintro e w1 ⟨rfl, hb1⟩
    have q0 := (hb1.cell (p := ⟨g1, 0, none⟩) rlt).trans r0
    have q1 := (hb1.cell (p := ⟨g1, 1, none⟩) rlt).trans r1
    have q2 := (hb1.cell (p := ⟨g1, 2, none⟩) rlt).trans r2
    have f0 := (hb1.frozen (p := ⟨g1, 0, none⟩) rlt).trans (HRF.out 0)
    have f1 := (hb1.frozen (p := ⟨g1, 1, none⟩) rlt).trans (HRF.out 1)
    have f2 := (hb1.frozen (p := ⟨g1, 2, none⟩) rlt).trans (HRF.out 2)
    obtain ⟨k0, k1, k2⟩ := set3_cells w1 g1 (.slice none 0 0) (.slice none 0 0) (.int .i64 0) q0 q1 q2
    have hbF := set3_below (hb0.trans (hb1.mono hb0.size)) (Nat.le_of_lt hlt1) (.slice none 0 0) (.slice none 0 0) (.int .i64 0)
    have HBF := Lib.hid hbF
    clear hbF r0 r1 r2
    go_wp2
    exact bodyPost_ret (v := .tuple #[dval none 0 0 none 0 0 0, .int .i64 1]) (by simp [results, Try.results36, go_sem, k0, k1, k2]) rfl ⟨HBF.out, .inl ⟨HV.out, rfl⟩⟩
  | true =>
    have CV := Lib.hid (H.out.valid cs cm lp true hv)
    have HV := Lib.hid hv
    obtain ⟨v1, v2, v3, v4⟩ := validB_out hv
    rw [hls, hlm] at v1
    obtain ⟨l1, l2, l3, l4⟩ := limB_out v1
    have HN4 := Lib.hid l2
    have CI : ∀ W : World, Below wA.heap.size wA W → Hid (Calls Try.prog 62 #[.slice C no co, .int .i64 (ns : Nat)] W (InvPost o ns W)) := fun W hb => inverse_any C no co ns o W (HO.out.keep hb) (by omega) (by omega) HOI.out
    obtain ⟨d0, d1, d2, dlt⟩ := hd
    have HLS := Lib.hid hls
    have HLM := Lib.hid hlm
    clear hv v1 v2 v3 v4 l2 hls hlm
    by_cases hio : IsOrd o ns
    · have CI' : ∀ W : World, Below wA.heap.size wA W → Hid (Calls Try.prog 62 #[.slice C no co, .int .i64 (ns : Nat)] W (fun e w' => ∃ g, W.heap.size ≤ g ∧ e = .returned (.tuple #[.slice (some ⟨g, 0, none⟩) ns ns, .bool true]) ∧ Arr w' g 3 ns (zv (plcK o ns)) ∧ Below W.heap.size W w')) := fun W hb =>
        (CI W hb).out.mono fun e w' hp => by
          obtain ⟨p1, ⟨_, g, p2, p3, p4⟩ | ⟨p2, _⟩⟩ := hp
          · exact ⟨g, p2, p3, p4, p1⟩
          · exact absurd hio p2
      have HIO := Lib.hid hio
      have CC : ∀ W : World, Below wA.heap.size wA W → Hid (Calls Try.prog 14 #[dval A ns cs B nm cm lp] W (ClonePost W ns nm lp s m)) := fun W hb => clone_any A B ns cs nm cm lp s m W (H.out.hs.keep hb) (H.out.hm.keep hb) (by omega) (by have := HN4.out; omega)
      clear hio CI
      go_wp2_with (first
        | (go_at_call 16; ((with_reducible refine CV.out.mono ?_); rintro e w1 ⟨rfl, hb1⟩; have e0 := (hb1.cell (p := ⟨w.heap.size, 0, none⟩) dlt).trans d0; have e1 := (hb1.cell (p := ⟨w.heap.size, 1, none⟩) dlt).trans d1; have e2 := (hb1.cell (p := ⟨w.heap.size, 2, none⟩) dlt).trans d2; have elt := Nat.lt_of_lt_of_le dlt hb1.size))
        | (go_at_call 62; ((with_reducible refine (CI' _ hb1).out.mono ?_); rintro e w2 ⟨gI, hgI, rfl, hAI, hb2⟩; have hb12 := below_step hb1 hb2; have i0 := (hb2.cell (p := ⟨w.heap.size, 0, none⟩) elt).trans e0; have i1 := (hb2.cell (p := ⟨w.heap.size, 1, none⟩) elt).trans e1; have i2 := (hb2.cell (p := ⟨w.heap.size, 2, none⟩) elt).trans e2))
        | (go_at_call 14; ((with_reducible refine (CC _ hb12).out.mono ?_); rintro e w3 ⟨P, pc, R, rc, rfl, oP, oR, hPR, hb3⟩)))
      have hno' : no = ns := by rw [← HO.out.1]; exact HIO.out.1
      subst hno'
      have HDB := Lib.hid (DB.new w3 P no pc R nm rc lp)
      have oP1 := oP.keep (below_alloc w3 (dbox P no pc R nm rc lp))
      have oR1 := oR.keep (below_alloc w3 (dbox P no pc R nm rc lp))
      have hb2D := below_step hb3 (below_alloc w3 (dbox P no pc R nm rc lp))
      have hgl : ∀ q, (Value.slice P no pc).ownBlock = some q → w2.heap.size ≤ q ∧ q < w3.heap.size := World.ownsRow.lt oP
      have hgr : ∀ q, (Value.slice R nm rc).ownBlock = some q → w2.heap.size ≤ q ∧ q < w3.heap.size := World.ownsRow.lt oR
      have HGL := Lib.hid hgl
      have HGR := Lib.hid hgr
      have HPR := Lib.hid hPR
      have hgI := hAI.lt
      have HAI := Lib.hid hAI
      have ilt := Nat.lt_of_lt_of_le elt hb2.size
      have hbA2 := hb12
      have g1lt : g1 < w2.heap.size := Nat.lt_of_lt_of_le rlt hbA2.size
      have HI0 : Hid (w2.cell? ⟨w.heap.size, 0, none⟩ = some (.slice A no cs) ∧ w2.cell? ⟨w.heap.size, 1, none⟩ = some (.slice B nm cm) ∧ w2.cell? ⟨w.heap.size, 2, none⟩ = some (.int .i64 lp)) := ⟨i0, i1, i2⟩
      have HQ : Hid (w2.cell? ⟨g1, 0, none⟩ = some (.slice none 0 0) ∧ w2.cell? ⟨g1, 1, none⟩ = some (.slice none 0 0) ∧ w2.cell? ⟨g1, 2, none⟩ = some (.int .i64 0)) := ⟨(hbA2.cell (p := ⟨g1, 0, none⟩) rlt).trans r0, (hbA2.cell (p := ⟨g1, 1, none⟩) rlt).trans r1, (hbA2.cell (p := ⟨g1, 2, none⟩) rlt).trans r2⟩
      have HF : Hid (∀ i, w2.frozen? ⟨g1, i, none⟩ = false) := fun i => (hbA2.frozen (p := ⟨g1, i, none⟩) rlt).trans (HRF.out i)
      have hsP := oP1
      rw [← sK_zero o HLS.out] at hsP
      have hsR := oR1
      rw [← mK_zero (ml := m) (matesOf m) o (n := no) (by rw [HLM.out]; exact HN4.out)] at hsR
      generalize w3.alloc (dbox P no pc R nm rc lp) = wD at hsP hsR hb2D HDB ⊢
      obtain ⟨gB, hgB⟩ : ∃ gB, w3.heap.size = gB := ⟨_, rfl⟩
      rw [hgB] at HDB HGL HGR ⊢
      have hgB2 : w2.heap.size ≤ gB := by rw [← hgB]; exact hb3.size
      clear oP1 oR1 oP oR hPR hgl hgr hgB hAI i0 i1 i2 e0 e1 e2 d0 d1 d2 r0 r1 r2 CC CV CI' hb3
      go_loopw [9, 10, 11, 12, 32] (fun _ _ _ _ i wr => ∃ k : Nat, k ≤ no ∧ i = .int .i64 k ∧ Below w2.heap.size w2 wr ∧ DB wr gB P no pc R nm rc lp ∧ OI wr w2.heap.size (.slice P no pc) (sK s o no k) ∧ OI wr w2.heap.size (.slice R nm rc) (mK m (matesOf m) o no (4 * k))) (fun _ _ _ _ i _ => no - (intOf i).toNat)
      case atStart => exact ⟨0, by omega, rfl, hb2D, HDB.out, hsP, hsR⟩
      case round =>
        obtain ⟨k, hk, rfl, hbr, hdb, oPk, oRk⟩ := hrel
        have hk0 : (0 : Int) ≤ (k : Int) := Int.natCast_nonneg _
        by_cases hlt : k < no
        · obtain ⟨bc, oc, hCe, hbc, hcc⟩ := (HO.out.keep (below_step hbA2 hbr)).2 (by omega)
          subst hCe
          obtain ⟨hc1, hc2⟩ := ordN_cast HIO.out.2 hlt
          have z0 := hcc k hlt
          rw [← hc1] at z0
          have hss := sK_set (s := s) (o := o) hlt
          obtain ⟨c, hcx⟩ : ∃ c, ordN o k = c := ⟨_, rfl⟩
          have HCX := Lib.hid hcx
          rw [hcx] at z0 hc2 hss
          obtain ⟨gP, cP, hsl⟩ := oPk.form_pos (sK_length _ _ _ _) (by omega)
          injection hsl with hsl1 hsl2 hsl3
          subst hsl1; subst hsl3
          obtain ⟨ba, oa, hAe, hba, hca⟩ := (H.out.hs.keep (below_step hbA2 hbr)).2 (by omega)
          subst hAe
          have z1 := hca _ hc2
          obtain ⟨sv, hsv⟩ : ∃ sv, s.getD c 0 = sv := ⟨_, rfl⟩
          rw [hsv] at z1 hss
          have z2 := oPk.cell k (by rw [sK_length]; exact hlt)
          have z3 : wr.frozen? ⟨gP, k, none⟩ = false := by
            have := oPk
            unfold OI at this
            rw [sK_length] at this
            exact World.ownsRow.frozenAt this k
          have hne1 : gB ≠ gP := fun e => by have := (HGL.out gP rfl).2; omega
          have hset := OI.set_ oPk (sK_length _ _ _ _) k sv
          rw [hss] at hset
          have oR2 := oRk.grown hset.2 (by
            rcases HPR.out with e | e
            · cases e
            · exact .inr fun e' => e e'.symm)
          have hdb2 := hdb.grown hset.2 hne1
          have hb2 := below_set hbr (i := k) (HGL.out gP rfl).1 (.int .i64 sv)
          obtain ⟨y0, y1, y2, y3⟩ := hdb
          have x0 := (hbr.cell (p := ⟨w.heap.size, 0, none⟩) ilt).trans HI0.out.1
          have HS : OI (wr.setCell ⟨gP, k, none⟩ (.int .i64 sv)).drew w2.heap.size (.slice (some ⟨gP, 0, none⟩) no pc) (sK s o no (k + 1)) := hset.1
          have HR2 : OI (wr.setCell ⟨gP, k, none⟩ (.int .i64 sv)).drew w2.heap.size (.slice R nm rc) (mK m (matesOf m) o no (4 * k)) := oR2
          have HDB2 : DB (wr.setCell ⟨gP, k, none⟩ (.int .i64 sv)).drew gB (some ⟨gP, 0, none⟩) no pc R nm rc lp := hdb2
          have HB2 : Below w2.heap.size w2 (wr.setCell ⟨gP, k, none⟩ (.int .i64 sv)).drew := hb2.drew
          have HSx := Lib.hid HS
          have HR2x := Lib.hid HR2
          have HDB2x := Lib.hid HDB2
          have HB2x := Lib.hid HB2
          have HC2 := Lib.hid hc2
          have hc2' : (c : Int) < (no : Int) := by omega
          have hk1 : (k : Int) < (no : Int) := by omega
          generalize (sK s o no k).getD k 0 = pv at z2
          have hci0 : (0 : Int) ≤ (c : Int) := Int.natCast_nonneg _
          clear hset oR2 hdb2 hb2 hc1 hcc hca oPk oRk hcx hsP hsR hsl2 hss hsv HS HR2 HDB2 HB2
          go_wp2
          go_region
          generalize (wr.setCell ⟨gP, k, none⟩ (.int .i64 sv)).drew = wS at *
          go_wp2
          go_loopw [11, 12, 46] (fun _ _ i wr => ∃ t : Nat, t ≤ 4 ∧ i = .int .i64 t ∧ Below w2.heap.size w2 wr ∧ DB wr gB (some ⟨gP, 0, none⟩) no pc R nm rc lp ∧ OI wr w2.heap.size (.slice (some ⟨gP, 0, none⟩) no pc) (sK s o no (k + 1)) ∧ OI wr w2.heap.size (.slice R nm rc) (mK m (matesOf m) o no (4 * k + t))) (fun _ _ i _ => 4 - (intOf i).toNat)
          case atStart => exact ⟨0, by omega, rfl, HB2x.out, HDB2x.out, HSx.out, HR2x.out⟩
          case round =>
            obtain ⟨t, ht, rfl, hbt, hdbt, oPt, oRt⟩ := hrel
            have ht0 : (0 : Int) ≤ (t : Int) := Int.natCast_nonneg _
            by_cases htl : t < 4
            · have hn4 := HN4.out
              have hx : 4 * k + t < 4 * no := by omega
              have hy : 4 * c + t < 4 * no := by have := HC2.out; omega
              have hwas : wasH o (4 * k + t) = 4 * c + t := by
                unfold wasH
                rw [show (4 * k + t) / 4 = k by omega, show (4 * k + t) % 4 = t by omega, HCX.out]
              have hmat := matesOf_mates (validB_out HV.out).2.2.1 HLM.out (4 * c + t) (by omega)
              obtain ⟨mv, hmv⟩ : ∃ mv, matesOf m (4 * c + t) = mv := ⟨_, rfl⟩
              rw [hmv] at hmat
              obtain ⟨hm1, hm2⟩ := hmat
              have hss := mK_set (ml := m) (o := o) (m := matesOf m) hx
              rw [hwas, hmv] at hss
              obtain ⟨q, hq⟩ : ∃ q, mv / 4 = q := ⟨_, rfl⟩
              obtain ⟨r, hr'⟩ : ∃ r, mv % 4 = r := ⟨_, rfl⟩
              obtain ⟨v, hv⟩ : ∃ v, invN o no q = v := ⟨_, rfl⟩
              have hqn : q < no := by omega
              have hvn : v < no := by rw [← hv]; exact (ord_invN HIO.out hqn).2
              have hnew : newH o no mv = 4 * v + r := by unfold newH; rw [hq, hr', hv]
              rw [hnew] at hss
              obtain ⟨gR, cR, hsl⟩ := oRt.form_pos (n := nm) (by rw [mK_length]; omega) (by omega)
              injection hsl with hsl1 hsl2 hsl3
              subst hsl1; subst hsl3
              obtain ⟨bm, om, hBe, hbm, hcm⟩ := (H.out.hm.keep (below_step hbA2 hbt)).2 (by omega)
              subst hBe
              have z1 : wr.cell? ⟨bm, om + (4 * c + t), none⟩ = some (.int .i64 (mv : Nat)) := by rw [hcm _ (by omega)]; exact congrArg (fun z => some (Value.int .i64 z)) hm1
              have z2 := oRt.cell (4 * k + t) (by rw [mK_length]; exact hx)
              have z3 : wr.frozen? ⟨gR, 4 * k + t, none⟩ = false := by
                have := oRt
                unfold OI at this
                rw [mK_length, ← hn4] at this
                exact World.ownsRow.frozenAt this _
              have hAIt := HAI.out.below hbt hgI
              have z4 : wr.cell? ⟨gI, q, none⟩ = some (.int .i64 (v : Nat)) := by
                rw [hAIt.cell q hqn]
                show some (Value.int .i64 (plcK o no q)) = _
                rw [← invN_cast HIO.out hqn, hv]
              have hne1 : gB ≠ gR := fun e => by have := (HGR.out gR rfl).2; omega
              have hset := OI.set_ oRt (n := nm) (by rw [mK_length]; omega) (4 * k + t) (4 * (v : Int) + (r : Int))
              have hce : ((4 * v + r : Nat) : Int) = 4 * (v : Int) + (r : Int) := by omega
              rw [hce] at hss
              rw [hss] at hset
              have oP2 := oPt.grown hset.2 HPR.out
              have hdb2 := hdbt.grown hset.2 hne1
              have hb2 := below_set hbt (i := 4 * k + t) (HGR.out gR rfl).1 (.int .i64 (4 * (v : Int) + (r : Int)))
              obtain ⟨y0, y1, y2, y3⟩ := hdbt
              have x1 := (hbt.cell (p := ⟨w.heap.size, 1, none⟩) ilt).trans HI0.out.2.1
              have HS : OI (wr.setCell ⟨gR, 4 * k + t, none⟩ (.int .i64 (4 * (v : Int) + (r : Int)))).drew w2.heap.size (.slice (some ⟨gR, 0, none⟩) nm rc) (mK m (matesOf m) o no (4 * k + t + 1)) := hset.1
              have HP2 : OI (wr.setCell ⟨gR, 4 * k + t, none⟩ (.int .i64 (4 * (v : Int) + (r : Int)))).drew w2.heap.size (.slice (some ⟨gP, 0, none⟩) no pc) (sK s o no (k + 1)) := oP2
              have HDB2 : DB (wr.setCell ⟨gR, 4 * k + t, none⟩ (.int .i64 (4 * (v : Int) + (r : Int)))).drew gB (some ⟨gP, 0, none⟩) no pc (some ⟨gR, 0, none⟩) nm rc lp := hdb2
              have HB2 : Below w2.heap.size w2 (wr.setCell ⟨gR, 4 * k + t, none⟩ (.int .i64 (4 * (v : Int) + (r : Int)))).drew := hb2.drew
              have HSx := Lib.hid HS
              have HP2x := Lib.hid HP2
              have HDB2x := Lib.hid HDB2
              have HB2x := Lib.hid HB2
              generalize (mK m (matesOf m) o no (4 * k + t)).getD (4 * k + t) 0 = pv at z2
              have u1 : (mv : Int).tdiv 4 = (q : Int) := by rw [Int.tdiv_eq_ediv_of_nonneg (by omega)]; omega
              have u2 : (mv : Int).tmod 4 = (r : Int) := by rw [Int.tmod_eq_emod_of_nonneg (by omega)]; omega
              have u3 : IntKind.i64.wrap ((q : Nat) : Int) = (q : Nat) := IntWalk.i64_in _ (by omega)
              have u4 : IntKind.i64.wrap ((r : Nat) : Int) = (r : Nat) := IntWalk.i64_in _ (by omega)
              have u5 : IntKind.i64.wrap (4 * (v : Int)) = 4 * (v : Int) := IntWalk.i64_in _ (by omega)
              have u6 : IntKind.i64.wrap (4 * (v : Int) + (r : Int)) = 4 * (v : Int) + (r : Int) := IntWalk.i64_in _ (by omega)
              have u7 : IntKind.i64.wrap (4 * (k : Int)) = 4 * (k : Int) := IntWalk.i64_in _ (by omega)
              have u8 : IntKind.i64.wrap (4 * (k : Int) + (t : Int)) = 4 * (k : Int) + (t : Int) := IntWalk.i64_in _ (by omega)
              have u9 : (4 * (k : Int) + (t : Int)).toNat = 4 * k + t := by omega
              have ua : (0 : Int) ≤ 4 * (k : Int) + (t : Int) := by omega
              have ub : 4 * (k : Int) + (t : Int) < (nm : Int) := by omega
              have uc : (q : Int) < (no : Int) := by omega
              have ud : (0 : Int) ≤ (q : Int) := Int.natCast_nonneg _
              have hti : (t : Int) < 4 := by omega
              have ue : 4 * (c : Int) + (t : Int) < (nm : Int) := by omega
              have uf : (0 : Int) ≤ 4 * (c : Int) + (t : Int) := by omega
              have hcn : (c : Int) < (no : Int) := by omega
              have hnm4 : (nm : Int) = 4 * (no : Int) := by omega
              have HN4' := Lib.hid hnm4
              clear hset oP2 hdb2 hb2 hcm oPt oRt hsl2 hss HS HP2 HDB2 HB2 hn4 hwas hmv hm1 hq hr' hv hnew hce hAIt hnm4
              go_wp2
              go_still_tail 16, (by kernel_rfl)
              go_wp2
              go_roundw
              case rel => exact ⟨t + 1, by omega, by go_num, HB2x.out, HDB2x.out, HP2x.out, HSx.out⟩
              case measure => simp [intOf]; omega
            · obtain rfl : t = 4 := by omega
              clear htl ht
              go_wp2
              go_roundw
              case rel => exact ⟨k + 1, by omega, by go_num, hbt, hdbt, oPt, by rw [show 4 * (k + 1) = 4 * k + 4 by omega]; exact oRt⟩
              case measure => simp [intOf]; omega
        · obtain rfl : no = k := by omega
          obtain ⟨y0, y1, y2, y3⟩ := hdb
          have q0 := (hbr.cell (p := ⟨g1, 0, none⟩) g1lt).trans HQ.out.1
          have q1 := (hbr.cell (p := ⟨g1, 1, none⟩) g1lt).trans HQ.out.2.1
          have q2 := (hbr.cell (p := ⟨g1, 2, none⟩) g1lt).trans HQ.out.2.2
          have f0 := (hbr.frozen (p := ⟨g1, 0, none⟩) g1lt).trans (HF.out 0)
          have f1 := (hbr.frozen (p := ⟨g1, 1, none⟩) g1lt).trans (HF.out 1)
          have f2 := (hbr.frozen (p := ⟨g1, 2, none⟩) g1lt).trans (HF.out 2)
          obtain ⟨k0, k1, k2⟩ := set3_cells wr g1 (.slice P no pc) (.slice R nm rc) (.int .i64 lp) q0 q1 q2
          have n1 : (Value.slice P no pc).ownBlock ≠ some g1 := fun e => by have := (HGL.out g1 e).1; omega
          have n2 : (Value.slice R nm rc).ownBlock ≠ some g1 := fun e => by have := (HGR.out g1 e).1; omega
          have hsz2 : w.heap.size ≤ w2.heap.size := Nat.le_trans hb0.size hbA2.size
          have o1 := (oPk.set3 n1 (.slice P no pc) (.slice R nm rc) (.int .i64 lp)).mono (B' := w.heap.size) hsz2
          have o2 := (oRk.set3 n2 (.slice P no pc) (.slice R nm rc) (.int .i64 lp)).mono (B' := w.heap.size) hsz2
          rw [sK_all] at o1
          have o2' : OI (set3 wr g1 (.slice P no pc) (.slice R nm rc) (.int .i64 lp)) w.heap.size (.slice R nm rc) (renM (matesOf m) o no) := by rw [← mK_all m (matesOf m) o no]; exact o2
          have hbF := set3_below ((hb0.trans (hbA2.mono hb0.size)).trans (hbr.mono hsz2)) (Nat.le_of_lt hlt1) (.slice P no pc) (.slice R nm rc) (.int .i64 lp)
          have HP : Hid (RenPost s m o lp no nm w (.returned (.tuple #[dval P no pc R nm rc lp, .int .i64 0])) (set3 wr g1 (.slice P no pc) (.slice R nm rc) (.int .i64 lp))) := Lib.hid ⟨hbF, .inr (.inr ⟨HV.out, HIO.out, P, pc, R, rc, rfl, o1, o2'⟩)⟩
          clear o1 o2 o2' hbF n1 n2 oPk oRk hlt hk hk0 hsP hsR
          go_wp2
          exact bodyPost_ret (v := .tuple #[dval P no pc R nm rc lp, .int .i64 0]) (by simp [results, Try.results36, go_sem, k0, k1, k2]) rfl HP.out
    · have CI' : ∀ W : World, Below wA.heap.size wA W → Hid (Calls Try.prog 62 #[.slice C no co, .int .i64 (ns : Nat)] W (fun e w' => e = .returned (.tuple #[.slice none 0 0, .bool false]) ∧ Below W.heap.size W w')) := fun W hb =>
        (CI W hb).out.mono fun e w' hp => by
          obtain ⟨p1, ⟨p2, _⟩ | ⟨_, p3⟩⟩ := hp
          · exact absurd p2 hio
          · exact ⟨p3, p1⟩
      have HIO := Lib.hid hio
      clear hio CI
      refine (CV.out).mono ?_
      rintro e w1 ⟨rfl, hb1⟩
      have e0 := (hb1.cell (p := ⟨w.heap.size, 0, none⟩) dlt).trans d0
      have rlt1 := Nat.lt_of_lt_of_le rlt hb1.size
      have hbW := hb0.trans (hb1.mono hb0.size)
      go_wp2_with (go_at_call 62; ((with_reducible refine (CI' _ hb1).out.mono ?_); rintro e w2 ⟨rfl, hb2⟩; have hb12 := below_step hb1 hb2; have q0 := (hb12.cell (p := ⟨g1, 0, none⟩) rlt).trans r0; have q1 := (hb12.cell (p := ⟨g1, 1, none⟩) rlt).trans r1; have q2 := (hb12.cell (p := ⟨g1, 2, none⟩) rlt).trans r2; have f0 := (hb12.frozen (p := ⟨g1, 0, none⟩) rlt).trans (HRF.out 0); have f1 := (hb12.frozen (p := ⟨g1, 1, none⟩) rlt).trans (HRF.out 1); have f2 := (hb12.frozen (p := ⟨g1, 2, none⟩) rlt).trans (HRF.out 2)))
      obtain ⟨k0, k1, k2⟩ := set3_cells w2 g1 (.slice none 0 0) (.slice none 0 0) (.int .i64 0) q0 q1 q2
      have hbF := set3_below (hb0.trans (hb12.mono hb0.size)) (Nat.le_of_lt hlt1) (.slice none 0 0) (.slice none 0 0) (.int .i64 0)
      exact bodyPost_ret (v := .tuple #[dval none 0 0 none 0 0 0, .int .i64 2]) (by simp [results, Try.results36, go_sem, k0, k1, k2]) rfl ⟨hbF, .inr (.inl ⟨HV.out, HIO.out, rfl⟩)⟩

end Go.Proofs.Ytcllnoigppkjiaa
