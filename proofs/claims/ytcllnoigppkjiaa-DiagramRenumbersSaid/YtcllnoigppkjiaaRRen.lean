/- Walk of the reference: Renumber. -/
import Derived.Test.YtcllnoigppkjiaaRenLists
import Derived.Test.YtcllnoigppkjiaaDv
import Derived.Test.YtcllnoigppkjiaaApart
import Derived.StillTailTactics
import Derived.Test.YtcllnoigppkjiaaClone
namespace Go.Proofs.Ytcllnoigppkjiaa
open Go.RowKit

def atK (o : List Int) : Nat → Nat → Nat
  | 0 => fun _ => 0
  | k + 1 => upd (atK o k) (ordN o k) k
theorem atK_in {o : List Int} {n k i : Nat} (h : OrdK o n k) (hi : i < k) : atK o k (ordN o i) = i := by
  induction k with
  | zero => omega
  | succ k ih =>
    show upd (atK o k) (ordN o k) k (ordN o i) = i
    by_cases e : i = k
    · subst e; exact upd_same _ _ _
    · have h1 := (ordN_cast h (i := i) (by omega)).1
      have h2 := (ordN_cast h (i := k) (by omega)).1
      have h3 := h.ne i k (by omega) (by omega)
      rw [upd_other _ _ _ _ (by omega)]
      exact ih ⟨fun j hj => h.rg j (by omega), fun a b hab hb => h.ne a b hab (by omega)⟩ (by omega)
theorem atK_all {o : List Int} {n c : Nat} (h : IsOrd o n) (hc : c < n) : atK o n c = invN o n c := by
  obtain ⟨i, hi, e⟩ := h.perm.onto hc
  rw [← e, atK_in h.2 hi, invN_ord h hi]

theorem arr3 (w : World) (o1 o2 o3 : Obj) : (((w.alloc o1).alloc o2).alloc o3).heap[w.heap.size]? = some o1 ∧ (((w.alloc o1).alloc o2).alloc o3).heap[w.heap.size + 1]? = some o2 ∧ (((w.alloc o1).alloc o2).alloc o3).heap[w.heap.size + 1 + 1]? = some o3 := by
  have h1 : (w.alloc o1).heap.size = w.heap.size + 1 := by simp
  have h2 : ((w.alloc o1).alloc o2).heap.size = w.heap.size + 1 + 1 := by simp
  refine ⟨?_, ?_, ?_⟩
  · rw [Below.heap_alloc _ _ _ (by omega), Below.heap_alloc _ _ _ (by omega)]; exact heap_alloc_new w o1
  · rw [Below.heap_alloc _ _ _ (by omega), ← h1]; exact heap_alloc_new _ o2
  · rw [← h2]; exact heap_alloc_new _ o3
def RMade (wC : World) (ns : Nat) (lp : Int) (v : Value) (wX : World) : Prop := ∃ gB gS gM, v = .pointer (some ⟨gB, 0, none⟩) ∧ wC.heap.size ≤ gB ∧ wC.heap.size ≤ gS ∧ wC.heap.size ≤ gM ∧ gB ≠ gS ∧ gB ≠ gM ∧ gS ≠ gM ∧ Below wC.heap.size wC wX ∧
  wX.heap[gB]? = some (dbox (some ⟨gS, 0, none⟩) ns ns (some ⟨gM, 0, none⟩) (4 * ns) (4 * ns) lp) ∧ Arr wX gS 3 ns (fun _ => .int .i64 0) ∧ Arr wX gM 3 (4 * ns) (fun _ => .int .i64 0)
theorem DB.of_heap {w : World} {g : Nat} {A : Option Addr} {ns cs : Nat} {B : Option Addr} {nm cm : Nat} {lp : Int} (h : w.heap[g]? = some (dbox A ns cs B nm cm lp)) : DB w g A ns cs B nm cm lp := by
  have hlt : g < w.heap.size := by
    rcases Nat.lt_or_ge g w.heap.size with hlt | hge
    · exact hlt
    · rw [Array.getElem?_eq_none hge] at h; cases h
  refine ⟨?_, ?_, ?_, hlt⟩ <;> (rw [cell_of_row w g _ _ _ (0, 0) h]; rfl)

theorem DB.grow2 {w w' : World} {g q : Nat} {A : Option Addr} {ns cs : Nat} {B : Option Addr} {nm cm : Nat} {lp : Int} (h : DB w g A ns cs B nm cm lp) (hg : w.grownBy w' (some q)) (hne : g ≠ q) : DB w' g A ns cs B nm cm lp := by
  have hn : ∀ i, some (⟨g, i, none⟩ : Addr).block ≠ some q := fun i e => by injection e with e; exact hne e
  exact ⟨World.grownBy.cell hg h.1 (hn 0), World.grownBy.cell hg h.2.1 (hn 1), World.grownBy.cell hg h.2.2.1 (hn 2), Nat.lt_of_lt_of_le h.2.2.2 hg.size⟩

theorem RI.set3 {W : World} {g g1 n : Nat} {xs : List Int} (h : RI W (some ⟨g, 0, none⟩) n xs) (hne : g1 ≠ g) (a b c : Value) : RI (set3 W g1 a b c) (some ⟨g, 0, none⟩) n xs :=
  ⟨h.1, fun hn => by
    obtain ⟨b', off, e, hlt, hc⟩ := h.2 hn
    injection e with e; injection e with e1 e2; subst e1; subst e2
    exact ⟨g, 0, rfl, by simp [World.setCell]; exact hlt, fun j hj => (set3_far W g1 a b c hne (0 + j)).trans (hc j hj)⟩⟩

def RRenPost (s m o : List Int) (lp : Int) (ns nm : Nat) (w : World) (e : Ending) (w' : World) : Prop :=
  ∃ P pc R rc, e = .returned (dval P ns pc R nm rc lp) ∧ RI w' P ns (renS s o ns) ∧ RI w' R nm (renM (matesOf m) o ns) ∧ Below w.heap.size w w'

set_option maxHeartbeats 6400000 in
set_option maxRecDepth 100000 in
theorem rrenumber_any (A B C : Option Addr) (ns cs nm cm co : Nat) (lp : Int) (s m o : List Int) (w : World) (h : DV w A ns B nm s m) (ho : RI w C ns o) (hv : validB s m lp = true) (hio : IsOrd o ns) :
    Calls Try.prog 38 #[dval A ns cs B nm cm lp, .slice C ns co] w (RRenPost s m o lp ns nm w) := by
  have hd := (DB.new w A ns cs B nm cm lp).keep (below_alloc _ (.cells #[.slice none 0 0, .slice none 0 0, .int .i64 0] 24))
  have hb0 := below_step (below_alloc w (dbox A ns cs B nm cm lp)) (below_alloc _ (.cells #[.slice none 0 0, .slice none 0 0, .int .i64 0] 24))
  have hr := DB.new (w.alloc (dbox A ns cs B nm cm lp)) none 0 0 none 0 0 0
  have hrf : ∀ i, ((w.alloc (dbox A ns cs B nm cm lp)).alloc (.cells #[.slice none 0 0, .slice none 0 0, .int .i64 0] 24)).frozen? ⟨w.heap.size + 1, i, none⟩ = false := fun i => World.frozen?_alloc_at _ _ _ _ (by simp)
  have hsz : ((w.alloc (dbox A ns cs B nm cm lp)).alloc (.cells #[.slice none 0 0, .slice none 0 0, .int .i64 0] 24)).heap.size = w.heap.size + 2 := by simp
  have hsz1 : (w.alloc (dbox A ns cs B nm cm lp)).heap.size = w.heap.size + 1 := by simp
  rw [hsz1] at hr
  have hls := h.hs.1
  have hlm := h.hm.1
  obtain ⟨v1, v2, v3, v4⟩ := validB_out hv
  rw [hls, hlm] at v1
  obtain ⟨l1, l2, l3, l4⟩ := limB_out v1
  have HMT := Lib.hid (matesOf_mates v3 hlm)
  have HLS := Lib.hid hls
  have HLM := Lib.hid hlm
  have HN4 := Lib.hid l2
  have HIO := Lib.hid hio
  have hmk1 := fun W => make_one (P := Try.prog) Try.underlying22 Try.infoInt rfl ns (by omega) (by omega) W
  have hmk2 : ∀ W, (Instr.makeSlice 22 (.int .i64 (4 * (ns : Int))) (.int .i64 (4 * (ns : Int)))).run Try.prog W = .ok (.slice (some ⟨W.heap.size, 0, none⟩) (4 * ns) (4 * ns)) (W.alloc (.cells (cellsN (4 * ns) fun _ => .int .i64 0) 3)) := fun W => by
    have := make_one (P := Try.prog) Try.underlying22 Try.infoInt rfl (4 * ns) (by omega) (by omega) W
    rw [show ((4 * ns : Nat) : Int) = 4 * (ns : Int) by omega] at this
    exact this
  clear v1 v2 v3 v4 hv hls hlm l2 hio
  go_enter Try.func38, Try.ntmps38
  go_wp2_with fail
  generalize (w.alloc (dbox A ns cs B nm cm lp)).alloc (.cells #[.slice none 0 0, .slice none 0 0, .int .i64 0] 24) = wA at hd hb0 hr hrf hsz ⊢
  obtain ⟨g1, hg1⟩ : ∃ g1, w.heap.size + 1 = g1 := ⟨_, rfl⟩
  rw [hg1] at hr hrf ⊢
  have hlt1 : w.heap.size < g1 := by omega
  have hltA : g1 < wA.heap.size := by omega
  obtain ⟨gA, hgA'⟩ : ∃ gA, w.heap.size + 2 = gA := ⟨_, rfl⟩
  rw [hgA'] at hsz ⊢
  have hgA : wA.heap.size = gA := hsz
  clear hg1 hsz hsz1 hgA'
  have HRF := Lib.hid hrf
  have H := Lib.hid (h.keep hb0)
  have HO := Lib.hid (ho.keep hb0)
  have HR := Lib.hid hr
  have HD := Lib.hid hd
  obtain ⟨d0, d1, d2, dlt⟩ := hd
  have hA0 : Arr (wA.alloc (.cells (cellsN ns fun _ => .int .i64 0) 3)) wA.heap.size 3 ns (iv (atK o 0)) := (Arr.new wA ns 3 (fun _ => .int .i64 0)).congr fun i _ => rfl
  have hbA := below_alloc wA (.cells (cellsN ns fun _ => .int .i64 0) 3)
  clear hrf h ho hr
  rw [hgA] at hA0 hltA hbA dlt
  generalize wA.alloc (.cells (cellsN ns fun _ => .int .i64 0) 3) = wB at hA0 hbA ⊢
  have HG := Lib.hid hgA
  clear hgA d0 d1 d2 hmk1
  go_loopw [7] (fun i wr => ∃ k : Nat, k ≤ ns ∧ i = .int .i64 k ∧ Below gA wA wr ∧ Arr wr gA 3 ns (iv (atK o k))) (fun i _ => ns - (intOf i).toNat)
  case atStart => exact ⟨0, by omega, rfl, by rw [← HG.out]; exact (by rw [HG.out]; exact hbA), hA0⟩
  case round =>
    obtain ⟨k, hk, rfl, hbr, hA⟩ := hrel
    have hk0 : (0 : Int) ≤ (k : Int) := Int.natCast_nonneg _
    have hbr' : Below wA.heap.size wA wr := by rw [HG.out]; exact hbr
    by_cases hlt : k < ns
    · obtain ⟨bc, oc, hCe, hbc, hcc⟩ := (HO.out.keep hbr').2 (by omega)
      subst hCe
      obtain ⟨hc1, hc2⟩ := ordN_cast HIO.out.2 hlt
      have z0 := hcc k hlt
      rw [← hc1] at z0
      have hst : Arr (wr.setCell ⟨gA, ordN o k, none⟩ (.int .i64 (k : Nat))) gA 3 ns (iv (atK o (k + 1))) := hA.seti (ordN o k) k
      have z1 : wr.cell? ⟨gA, ordN o k, none⟩ = some (.int .i64 (atK o k (ordN o k) : Nat)) := hA.cell _ hc2
      have z2 := hA.frozen (ordN o k)
      have HST := Lib.hid hst
      have hk1 : (k : Int) < (ns : Int) := by omega
      clear hst hA hcc hc1
      generalize atK o k (ordN o k) = pv at *
      generalize ordN o k = x at *
      have hx0 : (0 : Int) ≤ (x : Int) := Int.natCast_nonneg _
      have hx1 : (x : Int) < (ns : Int) := by omega
      go_wp2
      go_roundw
      case rel => exact ⟨k + 1, by omega, by go_num, below_set hbr (Nat.le_refl _) _, HST.out⟩
      case measure => simp [intOf]; omega
    · obtain rfl : ns = k := by omega
      have hA1 : Arr wr gA 3 ns (iv (invN o ns)) := hA.congr fun i hi => by
        show Value.int .i64 ((atK o ns i : Nat) : Int) = Value.int .i64 ((invN o ns i : Nat) : Int)
        rw [atK_all HIO.out hi]
      obtain ⟨wC, hwC⟩ : ∃ wC : World, wC = wr := ⟨_, rfl⟩
      subst hwC
      obtain ⟨e0, e1, e2, elt⟩ := HD.out.keep hbr'
      have HA1 := Lib.hid hA1
      have w4 : IntKind.i64.wrap (4 * (ns : Int)) = 4 * (ns : Int) := IntWalk.i64_in _ (by omega)
      have hmk1 := fun W => make_one (P := Try.prog) Try.underlying22 Try.infoInt rfl ns (by omega) (by omega) W
      clear hlt hk hk0 hA hA0 hA1
      have K1 : Hid (∀ o1, (wC.alloc o1).drew.cell? ⟨w.heap.size, 2, none⟩ = some (.int .i64 lp)) := fun o1 => ((below_alloc wC o1).cell (p := ⟨w.heap.size, 2, none⟩) elt).trans e2
      have K2 : Hid (∀ o1 o2, ((wC.alloc o1).alloc o2).drew.cell? ⟨w.heap.size, 2, none⟩ = some (.int .i64 lp)) := fun o1 o2 => ((below_step (below_alloc wC o1) (below_alloc _ o2)).cell (p := ⟨w.heap.size, 2, none⟩) elt).trans e2
      have K3 : Hid (∀ o1 o2 o3, (((wC.alloc o1).alloc o2).alloc o3).drew.cell? ⟨w.heap.size, 2, none⟩ = some (.int .i64 lp)) := fun o1 o2 o3 => ((below_step (below_step (below_alloc wC o1) (below_alloc _ o2)) (below_alloc _ o3)).cell (p := ⟨w.heap.size, 2, none⟩) elt).trans e2
      go_upto_region 7 with fail
      go_cut [8] (fun v wX => RMade wC ns lp v wX)
      case first =>
        go_region_held3 (fun w' => w'.cell? ⟨w.heap.size, 2, none⟩ = some (.int .i64 lp)) (first | exact K3.out _ _ _ | exact K2.out _ _ | exact K1.out _ | go_keep) (fail)
        all_goals go_wp2_with fail
        all_goals go_meet
        all_goals first
          | exact ⟨wC.heap.size, wC.heap.size + 1, wC.heap.size + 1 + 1, rfl, by omega, by omega, by omega, by omega, by omega, by omega, (below_step (below_step (below_alloc wC _) (below_alloc _ _)) (below_alloc _ _)).drew, (arr3 wC _ _ _).1, (arr3 wC _ _ _).2.1, (arr3 wC _ _ _).2.2⟩
          | exact ⟨wC.heap.size, wC.heap.size + 1 + 1, wC.heap.size + 1, rfl, by omega, by omega, by omega, by omega, by omega, by omega, (below_step (below_step (below_alloc wC _) (below_alloc _ _)) (below_alloc _ _)).drew, (arr3 wC _ _ _).1, (arr3 wC _ _ _).2.2, (arr3 wC _ _ _).2.1⟩
          | exact ⟨wC.heap.size + 1, wC.heap.size, wC.heap.size + 1 + 1, rfl, by omega, by omega, by omega, by omega, by omega, by omega, (below_step (below_step (below_alloc wC _) (below_alloc _ _)) (below_alloc _ _)).drew, (arr3 wC _ _ _).2.1, (arr3 wC _ _ _).1, (arr3 wC _ _ _).2.2⟩
          | exact ⟨wC.heap.size + 1, wC.heap.size + 1 + 1, wC.heap.size, rfl, by omega, by omega, by omega, by omega, by omega, by omega, (below_step (below_step (below_alloc wC _) (below_alloc _ _)) (below_alloc _ _)).drew, (arr3 wC _ _ _).2.1, (arr3 wC _ _ _).2.2, (arr3 wC _ _ _).1⟩
          | exact ⟨wC.heap.size + 1 + 1, wC.heap.size, wC.heap.size + 1, rfl, by omega, by omega, by omega, by omega, by omega, by omega, (below_step (below_step (below_alloc wC _) (below_alloc _ _)) (below_alloc _ _)).drew, (arr3 wC _ _ _).2.2, (arr3 wC _ _ _).1, (arr3 wC _ _ _).2.1⟩
          | exact ⟨wC.heap.size + 1 + 1, wC.heap.size + 1, wC.heap.size, rfl, by omega, by omega, by omega, by omega, by omega, by omega, (below_step (below_step (below_alloc wC _) (below_alloc _ _)) (below_alloc _ _)).drew, (arr3 wC _ _ _).2.2, (arr3 wC _ _ _).2.1, (arr3 wC _ _ _).1⟩
      case rest =>
        obtain ⟨gB, gS, gM, rfl, k1, k2, k3, k4, k5, k6, hbX, hhB, hS0, hM0⟩ := hcut
        have hdB := DB.of_heap hhB
        have hszC : gA < wC.heap.size := HA1.out.lt
        have hbAX : Below gA wA wc := hbr.trans (hbX.mono (Nat.le_of_lt hszC))
        have hAX := HA1.out.keep hbX
        have HB2 : Hid (gB ≠ gS ∧ gB ≠ gM ∧ gS ≠ gM ∧ gA ≠ gS ∧ gA ≠ gM) := ⟨k4, k5, k6, by omega, by omega⟩
        have hS1 : Arr wc gS 3 ns (zv fun i => if ordN o i < 0 then s.getD (ordN o i) 0 else 0) := hS0.congr fun i _ => by simp
        have HM1 := Lib.hid hM0
        clear k4 k5 k6 hhB hbX hS0 hM0
        go_wp2
        go_loopw [9] (fun i wr => ∃ k : Nat, k ≤ ns ∧ i = .int .i64 k ∧ wc.grownBy wr (some gS) ∧ Arr wr gS 3 ns (zv fun x => if ordN o x < k then s.getD (ordN o x) 0 else 0)) (fun i _ => ns - (intOf i).toNat)
        case atStart => exact ⟨0, by omega, rfl, World.grownBy.refl _ _, hS1⟩
        case round =>
          obtain ⟨k, hk, rfl, hgk, hSk⟩ := hrel
          have hk0 : (0 : Int) ≤ (k : Int) := Int.natCast_nonneg _
          have hbAk := grown_below hbAX hgk (Nat.le_of_lt hAX.lt) (by omega)
          have hbAk' : Below wA.heap.size wA wr := by rw [HG.out]; exact hbAk
          have hAk := hAX.grown hgk (fun e => by injection e with e; exact HB2.out.2.2.2.1 e.symm)
          obtain ⟨y0, y1, y2, y3⟩ := DB.grow2 hdB hgk HB2.out.1
          by_cases hlt : k < ns
          · obtain ⟨ba, oa, hAe, hba, hca⟩ := (H.out.hs.keep hbAk').2 (by omega)
            subst hAe
            have z1 := hca k hlt
            obtain ⟨x0, x1, x2, xlt⟩ := HD.out.keep hbAk'
            obtain ⟨hv1, hv2⟩ := ord_invN HIO.out hlt
            have z2 : wr.cell? ⟨gA, k, none⟩ = some (.int .i64 (invN o ns k : Nat)) := hAk.cell k hlt
            obtain ⟨v, hvv⟩ : ∃ v, invN o ns k = v := ⟨_, rfl⟩
            rw [hvv] at z2 hv1 hv2
            have z3 := hSk.cell v hv2
            have z4 := hSk.frozen v
            obtain ⟨sv, hsv⟩ : ∃ sv, s.getD k 0 = sv := ⟨_, rfl⟩
            rw [hsv] at z1
            have hst : Arr (wr.setCell ⟨gS, v, none⟩ (.int .i64 sv)).drew gS 3 ns (zv fun x => if ordN o x < k + 1 then s.getD (ordN o x) 0 else 0) := (hSk.setz v sv).congr fun i hi => by
              show Value.int .i64 (if i = v then sv else if ordN o i < k then s.getD (ordN o i) 0 else 0) = Value.int .i64 (if ordN o i < k + 1 then s.getD (ordN o i) 0 else 0)
              by_cases e : i = v
              · subst e
                rw [if_pos rfl, hv1, if_pos (by omega), hsv]
              · have hne : ordN o i ≠ k := fun e' => e (HIO.out.perm.inj i v hi hv2 (by rw [e', hv1]))
                rw [if_neg e]
                by_cases e2 : ordN o i < k
                · rw [if_pos e2, if_pos (by omega)]
                · rw [if_neg e2, if_neg (by omega)]
            have hgn : wc.grownBy (wr.setCell ⟨gS, v, none⟩ (.int .i64 sv)).drew (some gS) := ⟨(grown_set hgk v (.int .i64 sv)).os, by have := (grown_set hgk v (.int .i64 sv)).tape; exact this, (grown_set hgk v (.int .i64 sv)).output, (grown_set hgk v (.int .i64 sv)).size, (grown_set hgk v (.int .i64 sv)).block⟩
            have HST := Lib.hid hst
            have HGN := Lib.hid hgn
            have hk1 : (k : Int) < (ns : Int) := by omega
            have hv0 : (0 : Int) ≤ (v : Int) := Int.natCast_nonneg _
            have hv3 : (v : Int) < (ns : Int) := by omega
            generalize zv (fun x => if ordN o x < k then s.getD (ordN o x) 0 else 0) v = pv at z3
            clear hst hgn hca hSk hAk hvv hsv hv1
            go_wp2
            go_still_tail 12, (by kernel_rfl)
            go_wp2
            go_roundw
            case rel => exact ⟨k + 1, by omega, by go_num, HGN.out, HST.out⟩
            case measure => simp [intOf]; omega
          · obtain rfl : ns = k := by omega
            obtain ⟨wE, hwE⟩ : ∃ wE : World, wE = wr := ⟨_, rfl⟩
            subst hwE
            have hS2 := hSk
            have hM2 := HM1.out.grown hgk (fun e => by injection e with e; exact HB2.out.2.2.1 e)
            have hM3 : Arr wE gM 3 (4 * ns) (zv fun x => if wasH o x < 0 then (newH o ns (matesOf m (wasH o x)) : Int) else 0) := hM2.congr fun i _ => by simp
            have hdE : DB wE gB (some ⟨gS, 0, none⟩) ns ns (some ⟨gM, 0, none⟩) (4 * ns) (4 * ns) lp := ⟨y0, y1, y2, y3⟩
            have HDE := Lib.hid hdE
            have hszE : gA ≤ wE.heap.size := Nat.le_of_lt hAk.lt
            have HAK := Lib.hid hAk
            have HS2 := Lib.hid hS2
            clear hlt hk hk0 hSk hS1 hS2 hM2 y0 y1 y2 hdE hgk hbAX hAX hdB
            go_wp2
            go_loopw [10, 11] (fun i _ wr => ∃ k : Nat, k ≤ 4 * ns ∧ i = .int .i64 k ∧ wE.grownBy wr (some gM) ∧ Arr wr gM 3 (4 * ns) (zv fun x => if wasH o x < k then (newH o ns (matesOf m (wasH o x)) : Int) else 0)) (fun i _ _ => 4 * ns - (intOf i).toNat)
            case atStart => exact ⟨0, by omega, rfl, World.grownBy.refl _ _, hM3⟩
            case round =>
              obtain ⟨k, hk, rfl, hgk, hMk⟩ := hrel
              have hk0 : (0 : Int) ≤ (k : Int) := Int.natCast_nonneg _
              have hbk := grown_below hbAk hgk hszE (by omega)
              have hbk' : Below wA.heap.size wA wr := by rw [HG.out]; exact hbk
              have hAk := HAK.out.grown hgk (fun e => by injection e with e; exact HB2.out.2.2.2.2 e.symm)
              obtain ⟨y0, y1, y2, y3⟩ := DB.grow2 HDE.out hgk HB2.out.2.1
              by_cases hlt : k < 4 * ns
              · have hn4 := HN4.out
                obtain ⟨bm, om, hBe, hbm, hcm⟩ := (H.out.hm.keep hbk').2 (by omega)
                subst hBe
                obtain ⟨x0, x1, x2, xlt⟩ := HD.out.keep hbk'
                have hmat := HMT.out k (by omega)
                obtain ⟨mv, hmv⟩ : ∃ mv, matesOf m k = mv := ⟨_, rfl⟩
                rw [hmv] at hmat
                obtain ⟨hm1, hm2⟩ := hmat
                have z1 : wr.cell? ⟨bm, om + k, none⟩ = some (.int .i64 (mv : Nat)) := by rw [hcm _ (by omega)]; exact congrArg (fun z => some (Value.int .i64 z)) hm1
                obtain ⟨q1, hq1⟩ : ∃ q, k / 4 = q := ⟨_, rfl⟩
                obtain ⟨r1, hr1⟩ : ∃ r, k % 4 = r := ⟨_, rfl⟩
                obtain ⟨q2, hq2⟩ : ∃ q, mv / 4 = q := ⟨_, rfl⟩
                obtain ⟨r2, hr2⟩ : ∃ r, mv % 4 = r := ⟨_, rfl⟩
                have hq1n : q1 < ns := by omega
                have hq2n : q2 < ns := by omega
                have z2 : wr.cell? ⟨gA, q1, none⟩ = some (.int .i64 (invN o ns q1 : Nat)) := hAk.cell q1 hq1n
                have z3 : wr.cell? ⟨gA, q2, none⟩ = some (.int .i64 (invN o ns q2 : Nat)) := hAk.cell q2 hq2n
                obtain ⟨v1, hv1⟩ : ∃ v, invN o ns q1 = v := ⟨_, rfl⟩
                obtain ⟨v2, hv2⟩ : ∃ v, invN o ns q2 = v := ⟨_, rfl⟩
                have hv1n : v1 < ns := by rw [← hv1]; exact (ord_invN HIO.out hq1n).2
                have hv2n : v2 < ns := by rw [← hv2]; exact (ord_invN HIO.out hq2n).2
                rw [hv1] at z2
                rw [hv2] at z3
                have hnk : newH o ns k = 4 * v1 + r1 := by unfold newH; rw [hq1, hr1, hv1]
                have hnm : newH o ns mv = 4 * v2 + r2 := by unfold newH; rw [hq2, hr2, hv2]
                have hwk : wasH o (4 * v1 + r1) = k := by rw [← hnk]; exact wasH_new HIO.out (by omega)
                have z4 := hMk.cell (4 * v1 + r1) (by omega)
                have z5 := hMk.frozen (4 * v1 + r1)
                have hst : Arr (wr.setCell ⟨gM, 4 * v1 + r1, none⟩ (.int .i64 (4 * (v2 : Int) + (r2 : Int)))).drew gM 3 (4 * ns) (zv fun x => if wasH o x < k + 1 then (newH o ns (matesOf m (wasH o x)) : Int) else 0) := (hMk.setz (4 * v1 + r1) (4 * (v2 : Int) + (r2 : Int))).congr fun i hi => by
                  show Value.int .i64 (if i = 4 * v1 + r1 then 4 * (v2 : Int) + (r2 : Int) else if wasH o i < k then (newH o ns (matesOf m (wasH o i)) : Int) else 0) = Value.int .i64 (if wasH o i < k + 1 then (newH o ns (matesOf m (wasH o i)) : Int) else 0)
                  by_cases e : i = 4 * v1 + r1
                  · subst e
                    rw [if_pos rfl, hwk, if_pos (by omega), hmv, hnm]
                    congr 1
                  · have hne : wasH o i ≠ k := fun e' => e (by
                      have := newH_was HIO.out hi
                      rw [e', hnk] at this
                      exact this.symm)
                    rw [if_neg e]
                    by_cases e2 : wasH o i < k
                    · rw [if_pos e2, if_pos (by omega)]
                    · rw [if_neg e2, if_neg (by omega)]
                have hgn : wE.grownBy (wr.setCell ⟨gM, 4 * v1 + r1, none⟩ (.int .i64 (4 * (v2 : Int) + (r2 : Int)))).drew (some gM) := ⟨(grown_set hgk (4 * v1 + r1) (.int .i64 (4 * (v2 : Int) + (r2 : Int)))).os, by have := (grown_set hgk (4 * v1 + r1) (.int .i64 (4 * (v2 : Int) + (r2 : Int)))).tape; exact this, (grown_set hgk (4 * v1 + r1) (.int .i64 (4 * (v2 : Int) + (r2 : Int)))).output, (grown_set hgk (4 * v1 + r1) (.int .i64 (4 * (v2 : Int) + (r2 : Int)))).size, (grown_set hgk (4 * v1 + r1) (.int .i64 (4 * (v2 : Int) + (r2 : Int)))).block⟩
                have HST := Lib.hid hst
                have HGN := Lib.hid hgn
                generalize zv (fun x => if wasH o x < k then (newH o ns (matesOf m (wasH o x)) : Int) else 0) (4 * v1 + r1) = pv at z4
                have u1 : (k : Int).tdiv 4 = (q1 : Int) := by rw [Int.tdiv_eq_ediv_of_nonneg (by omega)]; omega
                have u2 : (k : Int).tmod 4 = (r1 : Int) := by rw [Int.tmod_eq_emod_of_nonneg (by omega)]; omega
                have u3 : (mv : Int).tdiv 4 = (q2 : Int) := by rw [Int.tdiv_eq_ediv_of_nonneg (by omega)]; omega
                have u4 : (mv : Int).tmod 4 = (r2 : Int) := by rw [Int.tmod_eq_emod_of_nonneg (by omega)]; omega
                have u5 : IntKind.i64.wrap ((q1 : Nat) : Int) = (q1 : Nat) := IntWalk.i64_in _ (by omega)
                have u6 : IntKind.i64.wrap ((r1 : Nat) : Int) = (r1 : Nat) := IntWalk.i64_in _ (by omega)
                have u7 : IntKind.i64.wrap ((q2 : Nat) : Int) = (q2 : Nat) := IntWalk.i64_in _ (by omega)
                have u8 : IntKind.i64.wrap ((r2 : Nat) : Int) = (r2 : Nat) := IntWalk.i64_in _ (by omega)
                have u9 : IntKind.i64.wrap (4 * (v1 : Int)) = 4 * (v1 : Int) := IntWalk.i64_in _ (by omega)
                have ua : IntKind.i64.wrap (4 * (v2 : Int)) = 4 * (v2 : Int) := IntWalk.i64_in _ (by omega)
                have ub : IntKind.i64.wrap (4 * (v1 : Int) + (r1 : Int)) = 4 * (v1 : Int) + (r1 : Int) := IntWalk.i64_in _ (by omega)
                have uc : IntKind.i64.wrap (4 * (v2 : Int) + (r2 : Int)) = 4 * (v2 : Int) + (r2 : Int) := IntWalk.i64_in _ (by omega)
                have ud : (4 * (v1 : Int) + (r1 : Int)).toNat = 4 * v1 + r1 := by omega
                have ue : (0 : Int) ≤ 4 * (v1 : Int) + (r1 : Int) := by omega
                have uf : 4 * (v1 : Int) + (r1 : Int) < 4 * (ns : Int) := by omega
                have ug : (q1 : Int) < (ns : Int) := by omega
                have uh : (q2 : Int) < (ns : Int) := by omega
                have ui : (k : Int) < (nm : Int) := by omega
                have uj : (k : Int) < 4 * (ns : Int) := by omega
                clear hst hgn hcm hMk hAk hmv hq1 hr1 hq2 hr2 hv1 hv2 hnk hnm hwk hm1 hn4 hM3
                go_wp2
                go_still_tail 21, (by kernel_rfl)
                go_wp2
                go_roundw
                case rel => exact ⟨k + 1, by omega, by go_num, HGN.out, HST.out⟩
                case measure => simp [intOf]; omega
              · obtain rfl : k = 4 * ns := by omega
                have hn4 := HN4.out
                have hSf := HS2.out.grown hgk (fun e => by injection e with e; exact HB2.out.2.2.1 e.symm)
                have rS : RI wr (some ⟨gS, 0, none⟩) ns (renS s o ns) := ⟨renS_length _ _ _, fun _ => ⟨gS, 0, rfl, hSf.lt, fun j hj => by
                  rw [Nat.zero_add, hSf.cell j hj, renS_get hj]
                  show some (Value.int .i64 (if ordN o j < ns then s.getD (ordN o j) 0 else 0)) = _
                  rw [if_pos (ordN_cast HIO.out.2 hj).2]⟩⟩
                have rM : RI wr (some ⟨gM, 0, none⟩) (4 * ns) (renM (matesOf m) o ns) := ⟨renM_length _ _ _, fun _ => ⟨gM, 0, rfl, hMk.lt, fun j hj => by
                  rw [Nat.zero_add, hMk.cell j hj, renM_get hj]
                  show some (Value.int .i64 (if wasH o j < 4 * ns then (newH o ns (matesOf m (wasH o j)) : Int) else 0)) = _
                  rw [if_pos (wasH_lt HIO.out hj)]⟩⟩
                have q0 := (hbk.cell (p := ⟨g1, 0, none⟩) hltA).trans HR.out.1
                have q1 := (hbk.cell (p := ⟨g1, 1, none⟩) hltA).trans HR.out.2.1
                have q2 := (hbk.cell (p := ⟨g1, 2, none⟩) hltA).trans HR.out.2.2.1
                have f0 := (hbk.frozen (p := ⟨g1, 0, none⟩) hltA).trans (HRF.out 0)
                have f1 := (hbk.frozen (p := ⟨g1, 1, none⟩) hltA).trans (HRF.out 1)
                have f2 := (hbk.frozen (p := ⟨g1, 2, none⟩) hltA).trans (HRF.out 2)
                obtain ⟨k0, k1', k2'⟩ := set3_cells wr g1 (.slice (some ⟨gS, 0, none⟩) ns ns) (.slice (some ⟨gM, 0, none⟩) (4 * ns) (4 * ns)) (.int .i64 lp) q0 q1 q2
                have rS' := rS.set3 (g1 := g1) (by omega) (.slice (some ⟨gS, 0, none⟩) ns ns) (.slice (some ⟨gM, 0, none⟩) (4 * ns) (4 * ns)) (.int .i64 lp)
                have rM' := rM.set3 (g1 := g1) (by omega) (.slice (some ⟨gS, 0, none⟩) ns ns) (.slice (some ⟨gM, 0, none⟩) (4 * ns) (4 * ns)) (.int .i64 lp)
                have hgA0 : w.heap.size ≤ gA := by omega
                have hbF := set3_below (hb0.trans ((hbk.mono (Nat.le_refl _)).mono hgA0)) (Nat.le_of_lt hlt1) (.slice (some ⟨gS, 0, none⟩) ns ns) (.slice (some ⟨gM, 0, none⟩) (4 * ns) (4 * ns)) (.int .i64 lp)
                have HP : Hid (RRenPost s m o lp ns nm w (.returned (dval (some ⟨gS, 0, none⟩) ns ns (some ⟨gM, 0, none⟩) (4 * ns) (4 * ns) lp)) (set3 wr g1 (.slice (some ⟨gS, 0, none⟩) ns ns) (.slice (some ⟨gM, 0, none⟩) (4 * ns) (4 * ns)) (.int .i64 lp))) := Lib.hid (by
                  rw [← hn4] at rM' hbF ⊢
                  rw [← hn4] at rS'
                  exact ⟨_, _, _, _, rfl, rS', rM', hbF⟩)
                clear rS rM rS' rM' hbF hSf hMk hAk hM3 hn4 hk hk0 hlt
                go_wp2
                exact bodyPost_ret (v := dval (some ⟨gS, 0, none⟩) ns ns (some ⟨gM, 0, none⟩) (4 * ns) (4 * ns) lp) (by simp [results, Try.results38, go_sem, k0, k1', k2']) rfl HP.out

end Go.Proofs.Ytcllnoigppkjiaa
