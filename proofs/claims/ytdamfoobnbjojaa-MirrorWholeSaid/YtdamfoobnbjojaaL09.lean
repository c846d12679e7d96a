import Derived.Test.YtdamfoobnbjojaaL08
import Derived.Test.YtdamfoobnbjojaaL05
import Derived.Test.YtdamfoobnbjojaaL01
/- Walk: the reference's SwitchAll. -/
namespace Go.Proofs.Ytdamfoobnbjojaa
open Go.RowKit

def zL (n : Nat) (f : Nat → Int) : List Int := (List.range n).map f
theorem zL_get {n i : Nat} (f : Nat → Int) (h : i < n) : (zL n f).getD i 0 = f i := by simp [zL, List.getD, h]
theorem ri_zL {w : World} {g n : Nat} {f : Nat → Int} (h : Arr w g 3 n (zv f)) : RI w (some ⟨g, 0, none⟩) n (zL n f) :=
  ⟨by simp [zL], fun _ => ⟨g, 0, rfl, h.lt, fun j hj => by rw [zL_get _ hj, Nat.zero_add]; exact h.cell j hj⟩⟩
theorem ri_nL {w : World} {g n : Nat} {M : Nat → Nat} (h : Arr w g 3 n (iv M)) : RI w (some ⟨g, 0, none⟩) n ((List.range n).map fun i => (M i : Int)) :=
  ⟨by simp, fun _ => ⟨g, 0, rfl, h.lt, fun j hj => by rw [Nat.zero_add, h.cell j hj]; simp [List.getD, hj]⟩⟩
/-- By how much the reference turns a crossing. -/
def tlF (F : Nat → Bool) (s : List Int) (k i : Nat) : Int := if i < k ∧ F i = true then (if s.getD i 0 = 1 then -3 else -1) else 0
theorem tlF_range (F : Nat → Bool) (s : List Int) (k i : Nat) : -4 ≤ tlF F s k i ∧ tlF F s k i ≤ 4 := by unfold tlF; split <;> (try split) <;> omega
theorem turn_key (r : Nat) (hr : r < 4) : (((r : Int) + 0).tmod 4 + 4) % 4 = ((r + 0) % 4 : Nat) ∧ (((r : Int) + -1).tmod 4 + 4) % 4 = ((r + 3) % 4 : Nat) ∧ (((r : Int) + -3).tmod 4 + 4) % 4 = ((r + 1) % 4 : Nat) := by
  have : r = 0 ∨ r = 1 ∨ r = 2 ∨ r = 3 := by omega
  rcases this with rfl | rfl | rfl | rfl <;> decide
theorem tlF_turn {F : Nat → Bool} {s : List Int} {n h : Nat} (hh : h < 4 * n) (hs : s.getD (h / 4) 0 = 1 ∨ s.getD (h / 4) 0 = -1) : (h : Int) - (h : Int) % 4 + ((rX false (zL n (tlF F s n)) h).tmod 4 + 4) % 4 = ((rot (fun c => if F c = true then swQ s c else 0) h : Nat) : Int) := by
  have hr : (h : Int) % 4 = ((h % 4 : Nat) : Int) := by omega
  obtain ⟨k1, k2, k3⟩ := turn_key (h % 4) (by omega)
  unfold rX rot
  rw [if_neg (by decide), zL_get _ (by omega), hr]
  show _ = ((trn h (if F (h / 4) = true then swQ s (h / 4) else 0) : Nat) : Int)
  unfold tlF trn
  by_cases hF : F (h / 4) = true
  · rw [if_pos ⟨by omega, hF⟩, if_pos hF]
    unfold swQ
    rcases hs with e | e
    · rw [if_pos e, if_pos e, k3]; omega
    · rw [if_neg (by omega), if_neg (by omega), k2]; omega
  · rw [if_neg (fun q => hF q.2), if_neg hF, k1]; omega

/-- A slice that reads as a list, its block from B on. -/
def RF (B : Nat) (w : World) (A : Option Addr) (n : Nat) (xs : List Int) : Prop := RI w A n xs ∧ ∀ b o, 0 < n → A = some ⟨b, o, none⟩ → B ≤ b
theorem OI.rf {w : World} {B n c : Nat} {A : Option Addr} {xs : List Int} (h : OI w B (.slice A n c) xs) : RF B w A n xs := ⟨h.ri, fun b o hn e => by
  rcases h.2 with ⟨e1, _⟩ | ⟨g, cap, cur, e1, hg, _⟩
  · injection e1 with _ e2; omega
  · injection e1 with e2; rw [e] at e2; injection e2 with e2; injection e2 with e2; omega⟩
theorem RF.mono {B B' : Nat} {w : World} {A : Option Addr} {n : Nat} {xs : List Int} (h : RF B w A n xs) (hB : B' ≤ B) : RF B' w A n xs := ⟨h.1, fun b o hn e => Nat.le_trans hB (h.2 b o hn e)⟩
theorem RF.keep {B : Nat} {w w' : World} {A : Option Addr} {n : Nat} {xs : List Int} (h : RF B w A n xs) (hb : Below w.heap.size w w') : RF B w' A n xs := ⟨h.1.keep hb, h.2⟩
theorem RF.set3 {B : Nat} {w : World} {A : Option Addr} {n g : Nat} {xs : List Int} (h : RF B w A n xs) (hg : g < B) (x y z : Value) : RF B (Go.Proofs.Ytdamfoobnbjojaa.set3 w g x y z) A n xs :=
  ⟨⟨h.1.1, fun hn => by
    obtain ⟨b, off, e, hlt, hc⟩ := h.1.2 hn
    refine ⟨b, off, e, by simp [World.setCell]; exact hlt, fun j hj => (set3_far w g x y z (by have := h.2 b off hn e; omega) _).trans (hc j hj)⟩⟩, h.2⟩
theorem rf_arr {B : Nat} {w : World} {g n : Nat} {M : Nat → Nat} (h : Arr w g 3 n (iv M)) (hB : B ≤ g) : RF B w (some ⟨g, 0, none⟩) n ((List.range n).map fun i => (M i : Int)) :=
  ⟨ri_nL h, fun b o _ e => by injection e with e; injection e with e; omega⟩
def RsPost (w : World) (ns nm : Nat) (lp : Int) (s m : List Int) (T : Nat → Nat) (P : Nat → Bool) (e : Ending) (w' : World) : Prop :=
  ∃ A cs B cm s' m', e = .returned (dval A ns cs B nm cm lp) ∧ RF w.heap.size w' A ns s' ∧ RF w.heap.size w' B nm m' ∧ Moved T P ns s m s' m' ∧ Below w.heap.size w w'
theorem moved_mv {T : Nat → Nat} {P : Nat → Bool} {n nm : Nat} {s m : List Int} (hs : s.length = n) (hnm : nm = 4 * n) (q : Place T n) : Moved T P n s m (fpK P s n) ((List.range nm).map fun i => ((mvF T (matesOf m) nm i : Nat) : Int)) := by
  subst hnm
  refine ⟨by rw [fpK_length, hs], by simp, fun c hc => by rw [fpK_get _ _ _ _ (by omega)]; simp [hc], fun x hx => ?_⟩
  have h1 := q.q.lt x hx
  unfold mt
  simp only [List.getD, List.getElem?_map, List.getElem?_range h1, Option.map_some, Option.getD_some]
  rw [mvF_get q (Nat.le_refl _) hx]

set_option maxHeartbeats 6400000 in
set_option maxRecDepth 100000 in
theorem rswitch_any (F : Nat → Bool) (A B : Option Addr) (ns cs nm cm gm : Nat) (lp : Int) (s m : List Int) (w : World) (h : DV w A ns B nm s m) (hv : validB s m lp = true) (hF : Arr w gm 4 ns (bv F)) :
    Calls Try.prog 50 #[dval A ns cs B nm cm lp, .slice (some ⟨gm, 0, none⟩) ns ns] w (RsPost w ns nm lp s m (rot fun c => if F c = true then swQ s c else 0) F) := by
  obtain ⟨hnm, hns, hM, hS, _, _⟩ := valid_data hv h.hs.1 h.hm.1
  have hmk : ∀ W, (Instr.makeSlice 22 (.int .i64 (ns : Int)) (.int .i64 (ns : Int))).run Try.prog W = .ok (.slice (some ⟨W.heap.size, 0, none⟩) ns ns) (W.alloc (.cells (cellsN ns fun _ => .int .i64 0) 3)) := fun W =>
    make_one (P := Try.prog) Try.underlying22 Try.infoInt rfl ns (by omega) (by omega) W
  have n1 : (ns : Int) ≤ 64 := by omega
  have n0 : (0 : Int) ≤ (ns : Int) := Int.natCast_nonneg _
  have hb1 := below_alloc w (dbox A ns cs B nm cm lp)
  have hb2 := below_alloc (w.alloc (dbox A ns cs B nm cm lp)) (.cells #[.slice none 0 0, .slice none 0 0, .int .i64 0] 24)
  have hd := (DB.new w A ns cs B nm cm lp).keep hb2
  have hbx := bx0_new (w.alloc (dbox A ns cs B nm cm lp))
  have hb := below_step hb1 hb2
  have hsz : (w.alloc (dbox A ns cs B nm cm lp)).heap.size = w.heap.size + 1 := by simp
  rw [hsz] at hbx
  have hsz2 : ((w.alloc (dbox A ns cs B nm cm lp)).alloc (.cells #[.slice none 0 0, .slice none 0 0, .int .i64 0] 24)).heap.size = w.heap.size + 2 := by simp
  have HH := Lib.hid h
  have HF := Lib.hid hF
  have HMV := Lib.hid hM
  have HSV := Lib.hid hS
  have HNM := Lib.hid hnm
  have HLS := Lib.hid h.hs.1
  clear hb1 hb2 h hv hM hS hnm hsz hF
  unfold dbox at hd hbx hb hsz2
  go_enter Try.func50, Try.ntmps50
  go_upto_region 1 with fail
  generalize (w.alloc (.cells #[.slice A ns cs, .slice B nm cm, .int .i64 lp] 24)).alloc (.cells #[.slice none 0 0, .slice none 0 0, .int .i64 0] 24) = w0 at hd hbx hb hsz2 ⊢
  obtain ⟨gd, hgd⟩ : ∃ gd, w.heap.size = gd := ⟨_, rfl⟩
  obtain ⟨gr, hgr⟩ : ∃ gr, gd + 1 = gr := ⟨_, rfl⟩
  rw [hgd] at hd hsz2 hbx ⊢
  rw [hgr] at hbx ⊢
  have HBX := Lib.hid hbx
  have HB := Lib.hid hb
  have HLT : Hid (gd < gr ∧ gr < w0.heap.size ∧ w.heap.size = gd) := Lib.hid ⟨by omega, by omega, hgd⟩
  have HD := Lib.hid hd
  obtain ⟨d0, d1, d2, dlt⟩ := hd
  clear hb hbx hgr hgd hsz2
  go_upto_region 2 with fail
  have hAT : Arr (w0.alloc (.cells (cellsN ns fun _ => .int .i64 0) 3)) w0.heap.size 3 ns (zv (tlF F s 0)) := (Arr.new w0 ns 3 (fun _ => .int .i64 0)).congr fun i _ => by simp [zv, tlF]
  have hbT := below_alloc w0 (.cells (cellsN ns fun _ => .int .i64 0) 3)
  have hsT : (w0.alloc (.cells (cellsN ns fun _ => .int .i64 0) 3)).heap.size = w0.heap.size + 1 := by simp
  generalize w0.alloc (.cells (cellsN ns fun _ => .int .i64 0) 3) = w1 at hAT hbT hsT ⊢
  obtain ⟨gT, hgT⟩ : ∃ gT, w0.heap.size = gT := ⟨_, rfl⟩
  rw [hgT] at hAT hsT ⊢
  have HGT := Lib.hid hgT
  have e0 := (hbT.cell (p := ⟨gd, 0, none⟩) dlt).trans d0
  have hdlt1 : gd < w1.heap.size := by omega
  have hEm := heap_alloc_new w1 (.cells #[] 3)
  have hrs : RI (w1.alloc (.cells #[] 3)) A ns s := (HH.out.hs.keep (below_step HB.out hbT)).alloc _
  have hAT2 := hAT.alloc (.cells #[] 3)
  have hbE := below_alloc w1 (.cells #[] 3)
  have e0' := (hbE.cell (p := ⟨gd, 0, none⟩) hdlt1).trans e0
  have HST := Lib.hid hsT
  clear d0 d1 d2 hgT hAT hsT
  go_upto_region 4 with (at_builtin; refine wpList_append_new rfl (.tmp 12) (.tmp 14) rfl (gT + 1) w1.heap.size rfl hEm (by have := HST.out; omega) A ns cs s rfl hrs (by omega) ?_; intro A1 c1 w2 kx oS _ hkx hkl hgr2)
  have hbE2 : Below w0.heap.size w0 w2 := (below_step hbT hbE).grown hgr2 (by have := hbT.size; simp; omega) (fun k e => by injection e with e; have := HGT.out; have := HST.out; omega)
  have hAT3 : Arr w2 gT 3 ns (zv (tlF F s 0)) := hAT2.grown hgr2 (by have := HST.out; simp; omega)
  have hoS : OI w2 (gT + 1) (.slice A1 ns c1) (fpK F s 0) := oS
  clear oS hAT2 hbE hgr2 hEm hrs e0 e0' hbT hkx hkl hdlt1
  have hgt := HGT.out
  have e0 := (hbE2.cell (p := ⟨gd, 0, none⟩) dlt).trans HD.out.1
  have HGR := HLT.out
  clear hgt
  go_loopw [7] (fun i wr => ∃ k : Nat, k ≤ ns ∧ i = .int .i64 k ∧ Below w0.heap.size w0 wr ∧ Arr wr gT 3 ns (zv (tlF F s k)) ∧ OI wr (gT + 1) (.slice A1 ns c1) (fpK F s k)) (fun i _ => ns - (intOf i).toNat)
  case atStart => exact ⟨0, by omega, rfl, hbE2, hAT3, hoS⟩
  case round =>
    obtain ⟨k, hk, rfl, hbr, hAr, hoR⟩ := hrel
    have hk0 : (0 : Int) ≤ (k : Int) := Int.natCast_nonneg _
    have hgt := HGT.out
    have x0 := (hbr.cell (p := ⟨gd, 0, none⟩) dlt).trans HD.out.1
    by_cases hkn : k < ns
    · have hk1 : (k : Int) < (ns : Int) := by omega
      have hFr := HF.out.keep (below_step HB.out hbr)
      have cF := hFr.cell k hkn
      obtain ⟨b, off, rfl, hb, hc⟩ := HH.out.hs.2 (by omega)
      have cS := ((below_step HB.out hbr).cell (p := ⟨b, off + k, none⟩) hb).trans (hc k hkn)
      have hsv := HSV.out k hkn
      cases hFk : F k with
      | false =>
        have HE1 : Hid (∀ i, i < ns → tlF F s k i = tlF F s (k + 1) i) := Lib.hid fun i _ => by
          unfold tlF
          by_cases e : i = k
          · subst e; simp [hFk]
          · have : i < k + 1 ↔ i < k := by omega
            simp [this]
        have HE2 : Hid (fpK F s (k + 1) = fpK F s k) := Lib.hid (by show (if F k = true then _ else _) = _; rw [if_neg (by rw [hFk]; decide)])
        unfold bv at cF
        rw [hFk] at cF
        have HI := Lib.hid (show Below w0.heap.size w0 wr ∧ Arr wr gT 3 ns (zv (tlF F s k)) ∧ OI wr (gT + 1) (.slice A1 ns c1) (fpK F s k) from ⟨hbr, hAr, hoR⟩)
        clear hbr hAr hoR hFr hc hFk hsv
        go_wp2
        go_roundw
        case rel => exact ⟨k + 1, by omega, by go_num, HI.out.1, HI.out.2.1.congr fun i hi => by show Value.int .i64 _ = Value.int .i64 _; rw [HE1.out i hi], by rw [HE2.out]; exact HI.out.2.2⟩
        case measure => simp [intOf]; omega
      | true =>
        obtain ⟨gS, pc, hsl⟩ := hoR.form_pos (show (fpK F s k).length = ns from by rw [fpK_length]; exact HLS.out) (by omega)
        injection hsl with e1 e2 e3
        subst e1; subst e3
        clear e2
        have hgS := World.ownsRow.lt hoR gS rfl
        obtain ⟨sg, hsg⟩ : ∃ sg, s.getD k 0 = sg := ⟨_, rfl⟩
        have HE2 : Hid (fpK F s (k + 1) = (fpK F s k).set k (-sg)) := Lib.hid (by show (if F k = true then _ else _) = _; rw [if_pos hFk, hsg])
        have HE1 : Hid (∀ i, (if i = k then (if sg = 1 then -3 else -1) else tlF F s k i) = tlF F s (k + 1) i) := Lib.hid fun i => by
          unfold tlF
          by_cases e : i = k
          · subst e
            rw [if_pos (show i < i + 1 ∧ F i = true from ⟨by omega, hFk⟩), hsg]
            simp only [if_true]
          · have : i < k + 1 ↔ i < k := by omega
            simp [e, this]
        rw [hsg] at cS hsv
        unfold bv at cF
        rw [hFk] at cF
        have hwn : IntKind.i64.wrap (0 - sg) = -sg := by rw [IntWalk.i64_in _ (by omega)]; omega
        have hsub : (0 : Int) - sg = -sg := by omega
        have cT := hAr.cell k hkn
        have fT := hAr.frozen k
        have hlen : (fpK F s k).length = ns := by rw [fpK_length]; exact HLS.out
        have cO := hoR.cell k (by rw [hlen]; exact hkn)
        have fO : wr.frozen? ⟨gS, k, none⟩ = false := by have := hoR; unfold OI at this; rw [hlen] at this; exact World.ownsRow.frozenAt this k
        have HI := Lib.hid (show Below w0.heap.size w0 wr ∧ Arr wr gT 3 ns (zv (tlF F s k)) ∧ OI wr (gT + 1) (.slice (some ⟨gS, 0, none⟩) ns c1) (fpK F s k) from ⟨hbr, hAr, hoR⟩)
        have HLN := Lib.hid hlen
        have hA1 : Arr (wr.setCell ⟨gT, k, none⟩ (.int .i64 (-1))) gT 3 ns (zv fun i => if i = k then -1 else tlF F s k i) := hAr.setz k (-1)
        have cT1 := hA1.cell k hkn
        have fT1 := hA1.frozen k
        have hblt : b < gT := by omega
        have hgmT : gd < gT := by omega
        clear hbr hAr hoR hFr hc hFk hsg hlen hA1 hgt
        by_cases hs1 : sg = 1
        · subst hs1
          have HN : Hid (Below w0.heap.size w0 (((wr.setCell ⟨gT, k, none⟩ (.int .i64 (-1))).setCell ⟨gT, k, none⟩ (.int .i64 (-3))).setCell ⟨gS, k, none⟩ (.int .i64 (-1))) ∧ Arr (((wr.setCell ⟨gT, k, none⟩ (.int .i64 (-1))).setCell ⟨gT, k, none⟩ (.int .i64 (-3))).setCell ⟨gS, k, none⟩ (.int .i64 (-1))) gT 3 ns (zv (tlF F s (k + 1))) ∧ OI (((wr.setCell ⟨gT, k, none⟩ (.int .i64 (-1))).setCell ⟨gT, k, none⟩ (.int .i64 (-3))).setCell ⟨gS, k, none⟩ (.int .i64 (-1))) (gT + 1) (.slice (some ⟨gS, 0, none⟩) ns c1) (fpK F s (k + 1))) := Lib.hid (by
            obtain ⟨i1, i2, i3⟩ := HI.out
            have hgt := HGT.out
            have o1 := i3.far (p := ⟨gT, k, none⟩) (fun e => by injection e with e; simp at e; omega) (.int .i64 (-1))
            have o2 := o1.far (p := ⟨gT, k, none⟩) (fun e => by injection e with e; simp at e; omega) (.int .i64 (-3))
            refine ⟨below_set (below_set (below_set i1 (by omega) _) (by omega) _) (by omega) _, (((i2.setz k (-1)).setz k (-3)).far (p := ⟨gS, k, none⟩) (by show gT ≠ gS; omega) _).congr fun i hi => ?_, ?_⟩
            · show Value.int .i64 _ = Value.int .i64 _
              rw [← HE1.out i]
              by_cases e : i = k <;> simp [e]
            · rw [HE2.out]; exact (o2.set_ HLN.out k (-1)).1)
          go_wp2
          go_roundw
          case rel => exact ⟨k + 1, by omega, by go_num, HN.out⟩
          case measure => simp [intOf]; omega
        · have hs2 : sg = -1 := by omega
          subst hs2
          have HN : Hid (Below w0.heap.size w0 ((wr.setCell ⟨gT, k, none⟩ (.int .i64 (-1))).setCell ⟨gS, k, none⟩ (.int .i64 1)) ∧ Arr ((wr.setCell ⟨gT, k, none⟩ (.int .i64 (-1))).setCell ⟨gS, k, none⟩ (.int .i64 1)) gT 3 ns (zv (tlF F s (k + 1))) ∧ OI ((wr.setCell ⟨gT, k, none⟩ (.int .i64 (-1))).setCell ⟨gS, k, none⟩ (.int .i64 1)) (gT + 1) (.slice (some ⟨gS, 0, none⟩) ns c1) (fpK F s (k + 1))) := Lib.hid (by
            obtain ⟨i1, i2, i3⟩ := HI.out
            have hgt := HGT.out
            have o1 := i3.far (p := ⟨gT, k, none⟩) (fun e => by injection e with e; simp at e; omega) (.int .i64 (-1))
            refine ⟨below_set (below_set i1 (by omega) _) (by omega) _, ((i2.setz k (-1)).far (p := ⟨gS, k, none⟩) (by show gT ≠ gS; omega) _).congr fun i hi => ?_, ?_⟩
            · show Value.int .i64 _ = Value.int .i64 _
              rw [← HE1.out i]
              by_cases e : i = k <;> simp [e]
            · rw [HE2.out]; exact (o1.set_ HLN.out k 1).1)
          clear hs1
          go_wp2
          go_roundw
          case rel => exact ⟨k + 1, by omega, by go_num, HN.out⟩
          case measure => simp [intOf]; omega
    · obtain rfl : ns = k := by omega
      have d0 := x0
      have d1 := (hbr.cell (p := ⟨gd, 1, none⟩) dlt).trans HD.out.2.1
      have d2 := (hbr.cell (p := ⟨gd, 2, none⟩) dlt).trans HD.out.2.2.1
      have hbw := below_step HB.out hbr
      have hgdr : gd < wr.heap.size := Nat.lt_of_lt_of_le dlt hbr.size
      have hbD : Below wr.heap.size wr wr.drew := (Below.refl _ _).drew
      have CMv := Lib.hid (rmove_false A B (some ⟨gT, 0, none⟩) ns cs nm cm ns lp (zL ns (tlF F s ns)) m (rot fun c => if F c = true then swQ s c else 0) wr.drew ((HH.out.hm.keep hbw).keep hbD) (ri_zL (hAr.keep hbD)) HNM.out hns HMV.out (fun c hc => by rw [zL_get _ hc]; exact tlF_range _ _ _ _) (rot_place _ _)
        (fun x hx => tlF_turn (by have := HNM.out; omega) (HSV.out _ (by have := HNM.out; omega))))
      have HO := Lib.hid hoR
      have HBW := Lib.hid hbw
      have d0d : wr.drew.cell? ⟨gd, 0, none⟩ = some (.slice A ns cs) := d0
      have d1d : wr.drew.cell? ⟨gd, 1, none⟩ = some (.slice B nm cm) := d1
      have d2d : wr.drew.cell? ⟨gd, 2, none⟩ = some (.int .i64 lp) := d2
      have hne : gr ≠ gd := by omega
      have HBR := Lib.hid hbr
      clear hAr hoR hbw hbr hkn hk x0
      go_wp2
      go_region_held3 (fun w' => w'.cell? ⟨gd, 0, none⟩ = some (.slice A ns cs) ∧ w'.cell? ⟨gd, 1, none⟩ = some (.slice B nm cm) ∧ w'.cell? ⟨gd, 2, none⟩ = some (.int .i64 lp))
        (first | exact ⟨d0d, d1d, d2d⟩ | exact ⟨(hb3.cell (p := ⟨gd, 0, none⟩) hgdr).trans d0, (hb3.cell (p := ⟨gd, 1, none⟩) hgdr).trans d1, (hb3.cell (p := ⟨gd, 2, none⟩) hgdr).trans d2⟩ | exact ⟨(set3_far w3 gr _ _ _ hne 0).trans ((hb3.cell (p := ⟨gd, 0, none⟩) hgdr).trans d0), (set3_far w3 gr _ _ _ hne 1).trans ((hb3.cell (p := ⟨gd, 1, none⟩) hgdr).trans d1), (set3_far w3 gr _ _ _ hne 2).trans ((hb3.cell (p := ⟨gd, 2, none⟩) hgdr).trans d2)⟩ | go_keep)
        ((go_at_call 52; ((with_reducible refine CMv.out.mono ?_); rintro e w3 ⟨gO, rfl, hAO, hgO, hb3'⟩; have hb3 := below_step hbD hb3'; have hr := HBX.out.kp (below_step HBR.out hb3); have r0 := hr.1.1; have r1 := hr.1.2.1; have r2 := hr.1.2.2.1; have f0 := hr.2 0; have f1 := hr.2 1; have f2 := hr.2 2)))
      obtain ⟨k0, k1, k2⟩ := set3_cells w3 gr (.slice A1 ns c1) (.slice (some ⟨gO, 0, none⟩) nm nm) (.int .i64 lp) r0 r1 r2
      have HP : Hid (RsPost w ns nm lp s m (rot fun c => if F c = true then swQ s c else 0) F (.returned (dval A1 ns c1 (some ⟨gO, 0, none⟩) nm nm lp)) (set3 w3 gr (.slice A1 ns c1) (.slice (some ⟨gO, 0, none⟩) nm nm) (.int .i64 lp))) := Lib.hid (by
        have hg := HLT.out
        have hb03 := HBR.out.size
        have hgT := HGT.out
        have hsD : wr.drew.heap.size = wr.heap.size := rfl
        have oS3 := HO.out.keep hb3
        have hAO2 := ((hAO.far (p := ⟨gr, 0, none⟩) (by show gO ≠ gr; omega) (.slice A1 ns c1)).far (p := ⟨gr, 1, none⟩) (by show gO ≠ gr; omega) (.slice (some ⟨gO, 0, none⟩) nm nm)).far (p := ⟨gr, 2, none⟩) (by show gO ≠ gr; omega) (.int .i64 lp)
        exact ⟨A1, c1, _, nm, _, _, rfl, (oS3.rf.mono (B' := w0.heap.size) (by omega)).set3 (by omega) _ _ _ |>.mono HB.out.size, rf_arr hAO2 (by have := HB.out.size; omega), moved_mv HLS.out HNM.out (rot_place _ _), set3_below (below_step HBW.out hb3) (by omega) _ _ _⟩)
      go_wp2
      exact bodyPost_ret (v := dval A1 ns c1 (some ⟨gO, 0, none⟩) nm nm lp) (by simp [results, Try.results50, go_sem, k0, k1, k2]) rfl HP.out

end Go.Proofs.Ytdamfoobnbjojaa

/- Walks: the reference's Mirror, negative, Reflect, Reverse. -/
namespace Go.Proofs.Ytdamfoobnbjojaa
open Go.RowKit

theorem Moved.congr {T T' : Nat → Nat} {P P' : Nat → Bool} {n : Nat} {s m s1 m1 : List Int} (h : Moved T P n s m s1 m1) (hm : ∀ x, x < 4 * n → matesOf m x < 4 * n) (eT : ∀ x, x < 4 * n → T' x = T x) (eP : ∀ c, c < n → P' c = P c) : Moved T' P' n s m s1 m1 :=
  ⟨h.ls, h.lm, fun c hc => by rw [eP c hc]; exact h.sg c hc, fun x hx => by rw [eT x hx, eT _ (hm x hx)]; exact h.mate x hx⟩
theorem valid_mates {s m : List Int} {lp : Int} {ns nm : Nat} (hv : validB s m lp = true) (hs : s.length = ns) (hm : m.length = nm) : ∀ x, x < 4 * ns → matesOf m x < 4 * ns := by
  obtain ⟨h1, _, h2, _⟩ := valid_data hv hs hm
  exact fun x hx => by have := (h2 x (by omega)).2; omega

set_option maxHeartbeats 6400000 in
set_option maxRecDepth 100000 in
theorem rmirror_any (A B : Option Addr) (ns cs nm cm : Nat) (lp : Int) (s m : List Int) (w : World) (h : DV w A ns B nm s m) (hv : validB s m lp = true) :
    Calls Try.prog 19 #[dval A ns cs B nm cm lp] w (RsPost w ns nm lp s m (opT 0 0 s) (opP 0 0)) := by
  obtain ⟨hnm, hns, hM, hS, _, _⟩ := valid_data hv h.hs.1 h.hm.1
  have HVM := Lib.hid (valid_mates hv h.hs.1 h.hm.1)
  have n1 : (ns : Int) ≤ 64 := by omega
  have n0 : (0 : Int) ≤ (ns : Int) := Int.natCast_nonneg _
  have hb1 := below_alloc w (dbox A ns cs B nm cm lp)
  have hb2 := below_alloc (w.alloc (dbox A ns cs B nm cm lp)) (.cells #[.slice none 0 0, .slice none 0 0, .int .i64 0] 24)
  have hd := (DB.new w A ns cs B nm cm lp).keep hb2
  have hbx := bx0_new (w.alloc (dbox A ns cs B nm cm lp))
  have hb := below_step hb1 hb2
  have hsz : (w.alloc (dbox A ns cs B nm cm lp)).heap.size = w.heap.size + 1 := by simp
  rw [hsz] at hbx
  have hsz2 : ((w.alloc (dbox A ns cs B nm cm lp)).alloc (.cells #[.slice none 0 0, .slice none 0 0, .int .i64 0] 24)).heap.size = w.heap.size + 2 := by simp
  have HH := Lib.hid h
  have HV := Lib.hid hv
  have HMV := Lib.hid hM
  have HSV := Lib.hid hS
  have HNM := Lib.hid hnm
  have HLS := Lib.hid h.hs.1
  clear hb1 hb2 h hv hM hS hnm hsz
  unfold dbox at hd hbx hb hsz2
  go_enter Try.func19, Try.ntmps19
  go_upto_region 1 with fail
  generalize (w.alloc (.cells #[.slice A ns cs, .slice B nm cm, .int .i64 lp] 24)).alloc (.cells #[.slice none 0 0, .slice none 0 0, .int .i64 0] 24) = w0 at hd hbx hb hsz2 ⊢
  obtain ⟨gd, hgd⟩ : ∃ gd, w.heap.size = gd := ⟨_, rfl⟩
  obtain ⟨gr, hgr⟩ : ∃ gr, gd + 1 = gr := ⟨_, rfl⟩
  rw [hgd] at hd hsz2 hbx ⊢
  rw [hgr] at hbx ⊢
  have HBX := Lib.hid hbx
  have HB := Lib.hid hb
  have HLT : Hid (gd < gr ∧ gr < w0.heap.size ∧ w.heap.size = gd) := Lib.hid ⟨by omega, by omega, hgd⟩
  have HD := Lib.hid hd
  have hne : gr ≠ gd := by omega
  obtain ⟨d0, d1, d2, dlt⟩ := hd
  clear hb hbx hgr hgd hsz2
  have hmk : ∀ W, (Instr.makeSlice 54 (.int .i64 (ns : Int)) (.int .i64 (ns : Int))).run Try.prog W = .ok (.slice (some ⟨W.heap.size, 0, none⟩) ns ns) (W.alloc (.cells (cellsN ns fun _ => .bool false) 4)) := fun W =>
    make_one (P := Try.prog) Try.underlying54 Try.infoBool rfl ns (by omega) (by omega) W
  go_upto_region 3 with fail
  have hA0 : Arr (w0.alloc (.cells (cellsN ns fun _ => .bool false) 4)) w0.heap.size 4 ns (bv fun i => decide (i < 0)) := (Arr.new w0 ns 4 (fun _ => .bool false)).congr fun _ _ => by simp
  have hbA := below_alloc w0 (.cells (cellsN ns fun _ => .bool false) 4)
  generalize w0.alloc (.cells (cellsN ns fun _ => .bool false) 4) = w1 at hA0 hbA ⊢
  obtain ⟨gT, hgT⟩ : ∃ gT, w0.heap.size = gT := ⟨_, rfl⟩
  rw [hgT] at hA0 ⊢
  have HGT := Lib.hid hgT
  clear hgT d0 d1 d2
  go_loopw [4] (fun i wr => ∃ k : Nat, k ≤ ns ∧ i = .int .i64 k ∧ Below w0.heap.size w0 wr ∧ Arr wr gT 4 ns (bv fun i => decide (i < k))) (fun i _ => ns - (intOf i).toNat)
  case atStart => exact ⟨0, by omega, rfl, hbA, hA0⟩
  case round =>
    obtain ⟨k, hk, rfl, hbr, hAr⟩ := hrel
    have hk0 : (0 : Int) ≤ (k : Int) := Int.natCast_nonneg _
    by_cases hkn : k < ns
    · have hk1 : (k : Int) < (ns : Int) := by omega
      have cA := hAr.cell k hkn
      have fA := hAr.frozen k
      have HN : Hid (Below w0.heap.size w0 (wr.setCell ⟨gT, k, none⟩ (.bool true)) ∧ Arr (wr.setCell ⟨gT, k, none⟩ (.bool true)) gT 4 ns (bv fun i => decide (i < (k + 1)))) := Lib.hid ⟨below_set hbr (by have := HGT.out; omega) _, (hAr.set k (.bool true)).congr fun i hi => by
        by_cases e : i = k
        · subst e; simp
        · have : i < k + 1 ↔ i < k := by omega
          simp [e, this]⟩
      clear hbr hAr
      go_wp2
      go_roundw
      case rel => exact ⟨k + 1, by omega, by go_num, HN.out⟩
      case measure => simp [intOf]; omega
    · obtain rfl : ns = k := by omega
      obtain ⟨wO, hwO⟩ : ∃ wO : World, wO = wr := ⟨_, rfl⟩
      subst hwO
      have d0 := (hbr.cell (p := ⟨gd, 0, none⟩) dlt).trans HD.out.1
      have d1 := (hbr.cell (p := ⟨gd, 1, none⟩) dlt).trans HD.out.2.1
      have d2 := (hbr.cell (p := ⟨gd, 2, none⟩) dlt).trans HD.out.2.2.1
      have hgdr : gd < wO.heap.size := Nat.lt_of_lt_of_le dlt hbr.size
      have hbw := below_step HB.out hbr
      have HBR := Lib.hid hbr
      have HBW := Lib.hid hbw
      have CS := Lib.hid (rswitch_any (fun i => decide (i < ns)) A B ns cs nm cm gT lp s m wO (HH.out.keep hbw) HV.out hAr)
      clear hbr hAr hbw hkn hk
      go_wp2_with (go_at_call 50; ((with_reducible refine CS.out.mono ?_); rintro e w3 ⟨A1, c1, B1, m1, s1, t1, rfl, rS, rM, hMv, hb3⟩; have hr := HBX.out.kp (below_step HBR.out hb3); have r0 := hr.1.1; have r1 := hr.1.2.1; have r2 := hr.1.2.2.1; have f0 := hr.2 0; have f1 := hr.2 1; have f2 := hr.2 2))
      obtain ⟨k0, k1, k2⟩ := set3_cells w3 gr (.slice A1 ns c1) (.slice B1 nm m1) (.int .i64 lp) r0 r1 r2
      have HP : Hid (RsPost w ns nm lp s m (opT 0 0 s) (opP 0 0) (.returned (dval A1 ns c1 B1 nm m1 lp)) (set3 w3 gr (.slice A1 ns c1) (.slice B1 nm m1) (.int .i64 lp))) := Lib.hid (by
        have hg := HLT.out
        have h3 := HBR.out.size
        have h4 := HB.out.size
        refine ⟨A1, c1, B1, m1, s1, t1, rfl, (rS.set3 (by omega) _ _ _).mono (by omega), (rM.set3 (by omega) _ _ _).mono (by omega), hMv.congr HVM.out (fun x hx => ?_) (fun c hc => ?_), set3_below (below_step HBW.out hb3) (by omega) _ _ _⟩
        · have e : opT 0 0 s = rot (swQ s) := by unfold opT; simp
          rw [e]
          show trn x (swQ s (x / 4)) = trn x (if decide (x / 4 < ns) = true then swQ s (x / 4) else 0)
          rw [if_pos (by simp; omega)]
        · show true = decide (c < ns)
          simp [hc])
      exact bodyPost_ret (v := dval A1 ns c1 B1 nm m1 lp) (by simp [results, Try.results19, go_sem, k0, k1, k2]) rfl HP.out

set_option maxHeartbeats 3200000 in
set_option maxRecDepth 100000 in
theorem rnegative_any (A : Option Addr) (ns cs : Nat) (s : List Int) (w : World) (hs : RI w A ns s) (hns : ns ≤ 64) (hS : ∀ i, i < ns → s.getD i 0 = 1 ∨ s.getD i 0 = -1) :
    Calls Try.prog 51 #[.slice A ns cs] w fun e w' => ∃ g, e = .returned (.slice (some ⟨g, 0, none⟩) ns ns) ∧ Arr w' g 3 ns (zv fun i => -(s.getD i 0)) ∧ w.heap.size ≤ g ∧ Below w.heap.size w w' := by
  have n1 : (ns : Int) ≤ 64 := by omega
  have n0 : (0 : Int) ≤ (ns : Int) := Int.natCast_nonneg _
  have hmk : ∀ W, (Instr.makeSlice 22 (.int .i64 (ns : Int)) (.int .i64 (ns : Int))).run Try.prog W = .ok (.slice (some ⟨W.heap.size, 0, none⟩) ns ns) (W.alloc (.cells (cellsN ns fun _ => .int .i64 0) 3)) := fun W =>
    make_one (P := Try.prog) Try.underlying22 Try.infoInt rfl ns (by omega) (by omega) W
  have HS := Lib.hid hs
  have HSV := Lib.hid hS
  clear hs hS
  go_enter Try.func51, Try.ntmps51
  go_upto_region 3 with fail
  have hA0 : Arr (w.alloc (.cells (cellsN ns fun _ => .int .i64 0) 3)) w.heap.size 3 ns (zv fun i => if i < 0 then -(s.getD i 0) else 0) := (Arr.new w ns 3 (fun _ => .int .i64 0)).congr fun _ _ => by simp
  have hbA := below_alloc w (.cells (cellsN ns fun _ => .int .i64 0) 3)
  generalize w.alloc (.cells (cellsN ns fun _ => .int .i64 0) 3) = w1 at hA0 hbA ⊢
  go_loopw [4] (fun i wr => ∃ k : Nat, k ≤ ns ∧ i = .int .i64 k ∧ Below w.heap.size w wr ∧ Arr wr w.heap.size 3 ns (zv fun i => if i < k then -(s.getD i 0) else 0)) (fun i _ => ns - (intOf i).toNat)
  case atStart => exact ⟨0, by omega, rfl, hbA, hA0⟩
  case round =>
    obtain ⟨k, hk, rfl, hbr, hAr⟩ := hrel
    have hk0 : (0 : Int) ≤ (k : Int) := Int.natCast_nonneg _
    by_cases hkn : k < ns
    · have hk1 : (k : Int) < (ns : Int) := by omega
      have cA := hAr.cell k hkn
      have fA := hAr.frozen k
      obtain ⟨b, off, rfl, hb, hc⟩ := HS.out.2 (by omega)
      have cS := (hbr.cell (p := ⟨b, off + k, none⟩) hb).trans (hc k hkn)
      have hsv := HSV.out k hkn
      obtain ⟨sg, hsg⟩ : ∃ sg, s.getD k 0 = sg := ⟨_, rfl⟩
      have HN : Hid (Below w.heap.size w (wr.setCell ⟨w.heap.size, k, none⟩ (.int .i64 (-sg))) ∧ Arr (wr.setCell ⟨w.heap.size, k, none⟩ (.int .i64 (-sg))) w.heap.size 3 ns (zv fun i => if i < k + 1 then -(s.getD i 0) else 0)) := Lib.hid ⟨below_set hbr (Nat.le_refl _) _, (hAr.setz k (-sg)).congr fun i hi => by
        show Value.int .i64 (if i = k then -sg else if i < k then -(s.getD i 0) else 0) = Value.int .i64 (if i < k + 1 then -(s.getD i 0) else 0)
        by_cases e : i = k
        · subst e; rw [if_pos rfl, if_pos (by omega), hsg]
        · have : i < k + 1 ↔ i < k := by omega
          simp [e, this]⟩
      rw [hsg] at cS hsv
      have hwn : IntKind.i64.wrap (0 - sg) = -sg := by rw [IntWalk.i64_in _ (by omega)]; omega
      have hsub : (0 : Int) - sg = -sg := by omega
      clear hbr hAr hc hsg
      go_wp2
      go_roundw
      case rel => exact ⟨k + 1, by omega, by go_num, HN.out⟩
      case measure => simp [intOf]; omega
    · obtain rfl : ns = k := by omega
      have hA2 : Arr wr w.heap.size 3 ns (zv fun i => -(s.getD i 0)) := hAr.congr fun i hi => by simp [zv, hi]
      have HP := Lib.hid (And.intro hA2 hbr)
      clear hAr hA2 hbr hkn hk
      go_wp2
      go_ret
      exact ⟨w.heap.size, rfl, HP.out.1, Nat.le_refl _, HP.out.2⟩

theorem moved_mv2 {T : Nat → Nat} {P : Nat → Bool} {n nm : Nat} {s m s' : List Int} (hs : s'.length = n) (hsg : ∀ c, c < n → s'.getD c 0 = if P c = true then -(s.getD c 0) else s.getD c 0) (hnm : nm = 4 * n) (q : Place T n) : Moved T P n s m s' ((List.range nm).map fun i => ((mvF T (matesOf m) nm i : Nat) : Int)) := by
  subst hnm
  refine ⟨hs, by simp, hsg, fun x hx => ?_⟩
  have h1 := q.q.lt x hx
  unfold mt
  simp only [List.getD, List.getElem?_map, List.getElem?_range h1, Option.map_some, Option.getD_some]
  rw [mvF_get q (Nat.le_refl _) hx]
theorem refl_turn2 {n h : Nat} (hh : h < 4 * n) : (h : Int) - (h : Int) % 4 + ((rX true (zL n fun _ => 0) h).tmod 4 + 4) % 4 = ((rfl4 h : Nat) : Int) := by
  unfold rX rfl4
  rw [if_pos rfl, zL_get _ (by omega)]
  have hr : (h : Int) % 4 = ((h % 4 : Nat) : Int) := by omega
  have key : ∀ r : Nat, r < 4 → ((0 - (r : Int)).tmod 4 + 4) % 4 = ((4 - r) % 4 : Nat) := fun r hr => by
    have : r = 0 ∨ r = 1 ∨ r = 2 ∨ r = 3 := by omega
    rcases this with rfl | rfl | rfl | rfl <;> decide
  rw [hr, key _ (by omega)]; omega
theorem rev_turn2 {n h : Nat} (hh : h < 4 * n) : (h : Int) - (h : Int) % 4 + ((rX false (zL n fun _ => 2) h).tmod 4 + 4) % 4 = ((rot (fun _ => 2) h : Nat) : Int) := by
  unfold rX rot
  rw [if_neg (by decide), zL_get _ (by omega)]
  have hr : (h : Int) % 4 = ((h % 4 : Nat) : Int) := by omega
  have key : ∀ r : Nat, r < 4 → (((r : Int) + 2).tmod 4 + 4) % 4 = ((r + 2) % 4 : Nat) := fun r hr => by
    have : r = 0 ∨ r = 1 ∨ r = 2 ∨ r = 3 := by omega
    rcases this with rfl | rfl | rfl | rfl <;> decide
  rw [hr, key _ (by omega)]
  show _ = ((trn h 2 : Nat) : Int)
  unfold trn; omega
theorem rf_zL {B : Nat} {w : World} {g n : Nat} {f : Nat → Int} (h : Arr w g 3 n (zv f)) (hB : B ≤ g) : RF B w (some ⟨g, 0, none⟩) n (zL n f) := ⟨ri_zL h, fun b o _ e => by injection e with e; injection e with e; omega⟩

set_option maxHeartbeats 6400000 in
set_option maxRecDepth 100000 in
theorem rreflect_any (A B : Option Addr) (ns cs nm cm : Nat) (lp : Int) (s m : List Int) (w : World) (h : DV w A ns B nm s m) (hv : validB s m lp = true) :
    Calls Try.prog 20 #[dval A ns cs B nm cm lp] w (RsPost w ns nm lp s m (opT 1 0 s) (opP 1 0)) := by
  obtain ⟨hnm, hns, hM, hS, _, _⟩ := valid_data hv h.hs.1 h.hm.1
  have HVM := Lib.hid (valid_mates hv h.hs.1 h.hm.1)
  have n1 : (ns : Int) ≤ 64 := by omega
  have n0 : (0 : Int) ≤ (ns : Int) := Int.natCast_nonneg _
  have hb1 := below_alloc w (dbox A ns cs B nm cm lp)
  have hb2 := below_alloc (w.alloc (dbox A ns cs B nm cm lp)) (.cells #[.slice none 0 0, .slice none 0 0, .int .i64 0] 24)
  have hd := (DB.new w A ns cs B nm cm lp).keep hb2
  have hbx := bx0_new (w.alloc (dbox A ns cs B nm cm lp))
  have hb := below_step hb1 hb2
  have hsz : (w.alloc (dbox A ns cs B nm cm lp)).heap.size = w.heap.size + 1 := by simp
  rw [hsz] at hbx
  have hsz2 : ((w.alloc (dbox A ns cs B nm cm lp)).alloc (.cells #[.slice none 0 0, .slice none 0 0, .int .i64 0] 24)).heap.size = w.heap.size + 2 := by simp
  have HH := Lib.hid h
  have HV := Lib.hid hv
  have HMV := Lib.hid hM
  have HSV := Lib.hid hS
  have HNM := Lib.hid hnm
  have HLS := Lib.hid h.hs.1
  clear hb1 hb2 h hv hM hS hnm hsz
  unfold dbox at hd hbx hb hsz2
  go_enter Try.func20, Try.ntmps20
  go_upto_region 1 with fail
  generalize (w.alloc (.cells #[.slice A ns cs, .slice B nm cm, .int .i64 lp] 24)).alloc (.cells #[.slice none 0 0, .slice none 0 0, .int .i64 0] 24) = w0 at hd hbx hb hsz2 ⊢
  obtain ⟨gd, hgd⟩ : ∃ gd, w.heap.size = gd := ⟨_, rfl⟩
  obtain ⟨gr, hgr⟩ : ∃ gr, gd + 1 = gr := ⟨_, rfl⟩
  rw [hgd] at hd hsz2 hbx ⊢
  rw [hgr] at hbx ⊢
  have HBX := Lib.hid hbx
  have HB := Lib.hid hb
  have HLT : Hid (gd < gr ∧ gr < w0.heap.size ∧ w.heap.size = gd) := Lib.hid ⟨by omega, by omega, hgd⟩
  have HD := Lib.hid hd
  have hne : gr ≠ gd := by omega
  obtain ⟨d0, d1, d2, dlt⟩ := hd
  clear hb hbx hgr hgd hsz2
  have hmk : ∀ W, (Instr.makeSlice 22 (.int .i64 (ns : Int)) (.int .i64 (ns : Int))).run Try.prog W = .ok (.slice (some ⟨W.heap.size, 0, none⟩) ns ns) (W.alloc (.cells (cellsN ns fun _ => .int .i64 0) 3)) := fun W =>
    make_one (P := Try.prog) Try.underlying22 Try.infoInt rfl ns (by omega) (by omega) W
  have hbD : Below w0.heap.size w0 w0.drew := (Below.refl _ _).drew
  have CN1 := Lib.hid (rnegative_any A ns cs s w0.drew ((HH.out.hs.keep HB.out).keep hbD) hns HSV.out)
  have hbz : Below w0.heap.size w0 (w0.alloc (.cells (cellsN ns fun _ => .int .i64 0) 3)).drew := (below_alloc w0 _).drew
  have CN2 := Lib.hid (rnegative_any A ns cs s (w0.alloc (.cells (cellsN ns fun _ => .int .i64 0) 3)).drew ((HH.out.hs.keep HB.out).keep hbz) hns HSV.out)
  have HAZ : Hid (Arr (w0.alloc (.cells (cellsN ns fun _ => .int .i64 0) 3)).drew w0.heap.size 3 ns (zv fun _ => 0)) := Lib.hid (Arr.new w0 ns 3 (fun _ => .int .i64 0))
  have CMv : ∀ W gz, Below w0.heap.size w0 W → Arr W gz 3 ns (zv fun _ => 0) → Hid (Calls Try.prog 52 #[dval A ns cs B nm cm lp, .slice (some ⟨gz, 0, none⟩) ns ns, .bool true] W (RmPost W nm rfl4 (matesOf m))) := fun W gz hW hA => Lib.hid
    (rmove_true A B (some ⟨gz, 0, none⟩) ns cs nm cm ns lp (zL ns fun _ => 0) m rfl4 W (HH.out.hm.keep (below_step HB.out hW)) (ri_zL hA) HNM.out hns HMV.out (fun c hc => by rw [zL_get _ hc]; omega) (rfl4_place _) (fun x hx => refl_turn2 (by have := HNM.out; omega)))
  have d0d : w0.drew.cell? ⟨gd, 0, none⟩ = some (.slice A ns cs) := d0
  have d1d : w0.drew.cell? ⟨gd, 1, none⟩ = some (.slice B nm cm) := d1
  have d2d : w0.drew.cell? ⟨gd, 2, none⟩ = some (.int .i64 lp) := d2
  go_region_held3 (fun w' => w'.cell? ⟨gd, 0, none⟩ = some (.slice A ns cs) ∧ w'.cell? ⟨gd, 1, none⟩ = some (.slice B nm cm) ∧ w'.cell? ⟨gd, 2, none⟩ = some (.int .i64 lp))
    (first | exact ⟨d0d, d1d, d2d⟩ | exact ⟨((hb1).cell (p := ⟨gd, 0, none⟩) dlt).trans d0, ((hb1).cell (p := ⟨gd, 1, none⟩) dlt).trans d1, ((hb1).cell (p := ⟨gd, 2, none⟩) dlt).trans d2⟩ | exact ⟨((hbz).cell (p := ⟨gd, 0, none⟩) dlt).trans d0, ((hbz).cell (p := ⟨gd, 1, none⟩) dlt).trans d1, ((hbz).cell (p := ⟨gd, 2, none⟩) dlt).trans d2⟩ | exact ⟨((hb1z).cell (p := ⟨gd, 0, none⟩) dlt).trans d0, ((hb1z).cell (p := ⟨gd, 1, none⟩) dlt).trans d1, ((hb1z).cell (p := ⟨gd, 2, none⟩) dlt).trans d2⟩ | exact ⟨((hb2).cell (p := ⟨gd, 0, none⟩) dlt).trans d0, ((hb2).cell (p := ⟨gd, 1, none⟩) dlt).trans d1, ((hb2).cell (p := ⟨gd, 2, none⟩) dlt).trans d2⟩ | exact ⟨(set3_far w2 gr _ _ _ hne 0).trans (((hb2).cell (p := ⟨gd, 0, none⟩) dlt).trans d0), (set3_far w2 gr _ _ _ hne 1).trans (((hb2).cell (p := ⟨gd, 1, none⟩) dlt).trans d1), (set3_far w2 gr _ _ _ hne 2).trans (((hb2).cell (p := ⟨gd, 2, none⟩) dlt).trans d2)⟩ | go_keep)
    (first
      | (go_at_call 51; ((with_reducible refine CN1.out.mono ?_); rintro e w1 ⟨gN, rfl, hAN, hgN, hb1'⟩; have hb1 := below_step hbD hb1'; have hb1z := below_step hb1 (below_alloc w1 (.cells (cellsN ns fun _ => .int .i64 0) 3)); have hAz : Arr (w1.alloc (.cells (cellsN ns fun _ => .int .i64 0) 3)) w1.heap.size 3 ns (zv fun _ => 0) := Arr.new w1 ns 3 (fun _ => .int .i64 0); have hAN2 := hAN.keep (below_alloc w1 (.cells (cellsN ns fun _ => .int .i64 0) 3)); have hgN2 : w0.heap.size ≤ gN := hgN))
      | (go_at_call 51; ((with_reducible refine CN2.out.mono ?_); rintro e w1 ⟨gN, rfl, hAN2, hgN, hb1'⟩; have hb1 := below_step hbz hb1'; have hb1z := hb1; have hAz := HAZ.out.keep hb1'; have hgN2 : w0.heap.size ≤ gN := Nat.le_trans hbz.size hgN))
      | (go_at_call 52; ((with_reducible refine (CMv _ _ hb1z hAz).out.mono ?_); rintro e w2 ⟨gO, rfl, hAO, hgO, hb2'⟩; have hb2 := below_step hb1z hb2'; have hr := HBX.out.kp hb2; have r0 := hr.1.1; have r1 := hr.1.2.1; have r2 := hr.1.2.2.1; have f0 := hr.2 0; have f1 := hr.2 1; have f2 := hr.2 2)))
  all_goals
    obtain ⟨k0, k1, k2⟩ := set3_cells w2 gr (.slice (some ⟨gN, 0, none⟩) ns ns) (.slice (some ⟨gO, 0, none⟩) nm nm) (.int .i64 lp) r0 r1 r2
    have HP : Hid (RsPost w ns nm lp s m (opT 1 0 s) (opP 1 0) (.returned (dval (some ⟨gN, 0, none⟩) ns ns (some ⟨gO, 0, none⟩) nm nm lp)) (set3 w2 gr (.slice (some ⟨gN, 0, none⟩) ns ns) (.slice (some ⟨gO, 0, none⟩) nm nm) (.int .i64 lp))) := Lib.hid (by
      have hg := HLT.out
      have h4 := HB.out.size
      have hz := hb1z.size
      have eT : opT 1 0 s = rfl4 := by unfold opT; simp
      have rN := rf_zL (B := w0.heap.size) (hAN2.keep hb2') (by omega)
      have rO := rf_arr (B := w0.heap.size) hAO (by omega)
      refine ⟨_, ns, _, nm, _, _, rfl, (rN.set3 (by omega) _ _ _).mono h4, (rO.set3 (by omega) _ _ _).mono h4, ?_, set3_below (below_step HB.out hb2) (by omega) _ _ _⟩
      rw [eT]
      exact moved_mv2 (by simp [zL]) (fun c hc => by rw [zL_get _ hc]; rfl) HNM.out (rfl4_place _))
    go_wp2
    exact bodyPost_ret (v := dval (some ⟨gN, 0, none⟩) ns ns (some ⟨gO, 0, none⟩) nm nm lp) (by simp [results, Try.results20, go_sem, k0, k1, k2]) rfl HP.out

set_option maxHeartbeats 6400000 in
set_option maxRecDepth 100000 in
theorem rreverse_any (A B : Option Addr) (ns cs nm cm : Nat) (lp : Int) (s m : List Int) (w : World) (h : DV w A ns B nm s m) (hv : validB s m lp = true) :
    Calls Try.prog 21 #[dval A ns cs B nm cm lp] w (RsPost w ns nm lp s m (opT 2 0 s) (opP 2 0)) := by
  obtain ⟨hnm, hns, hM, hS, _, _⟩ := valid_data hv h.hs.1 h.hm.1
  have HVM := Lib.hid (valid_mates hv h.hs.1 h.hm.1)
  have n1 : (ns : Int) ≤ 64 := by omega
  have n0 : (0 : Int) ≤ (ns : Int) := Int.natCast_nonneg _
  have hb1 := below_alloc w (dbox A ns cs B nm cm lp)
  have hb2 := below_alloc (w.alloc (dbox A ns cs B nm cm lp)) (.cells #[.slice none 0 0, .slice none 0 0, .int .i64 0] 24)
  have hd := (DB.new w A ns cs B nm cm lp).keep hb2
  have hbx := bx0_new (w.alloc (dbox A ns cs B nm cm lp))
  have hb := below_step hb1 hb2
  have hsz : (w.alloc (dbox A ns cs B nm cm lp)).heap.size = w.heap.size + 1 := by simp
  rw [hsz] at hbx
  have hsz2 : ((w.alloc (dbox A ns cs B nm cm lp)).alloc (.cells #[.slice none 0 0, .slice none 0 0, .int .i64 0] 24)).heap.size = w.heap.size + 2 := by simp
  have HH := Lib.hid h
  have HV := Lib.hid hv
  have HMV := Lib.hid hM
  have HSV := Lib.hid hS
  have HNM := Lib.hid hnm
  have HLS := Lib.hid h.hs.1
  clear hb1 hb2 h hv hM hS hnm hsz
  unfold dbox at hd hbx hb hsz2
  go_enter Try.func21, Try.ntmps21
  go_upto_region 1 with fail
  generalize (w.alloc (.cells #[.slice A ns cs, .slice B nm cm, .int .i64 lp] 24)).alloc (.cells #[.slice none 0 0, .slice none 0 0, .int .i64 0] 24) = w0 at hd hbx hb hsz2 ⊢
  obtain ⟨gd, hgd⟩ : ∃ gd, w.heap.size = gd := ⟨_, rfl⟩
  obtain ⟨gr, hgr⟩ : ∃ gr, gd + 1 = gr := ⟨_, rfl⟩
  rw [hgd] at hd hsz2 hbx ⊢
  rw [hgr] at hbx ⊢
  have HBX := Lib.hid hbx
  have HB := Lib.hid hb
  have HLT : Hid (gd < gr ∧ gr < w0.heap.size ∧ w.heap.size = gd) := Lib.hid ⟨by omega, by omega, hgd⟩
  have HD := Lib.hid hd
  have hne : gr ≠ gd := by omega
  obtain ⟨d0, d1, d2, dlt⟩ := hd
  clear hb hbx hgr hgd hsz2
  have hmk : ∀ W, (Instr.makeSlice 22 (.int .i64 (ns : Int)) (.int .i64 (ns : Int))).run Try.prog W = .ok (.slice (some ⟨W.heap.size, 0, none⟩) ns ns) (W.alloc (.cells (cellsN ns fun _ => .int .i64 0) 3)) := fun W =>
    make_one (P := Try.prog) Try.underlying22 Try.infoInt rfl ns (by omega) (by omega) W
  go_upto_region 3 with fail
  have hA0 : Arr (w0.alloc (.cells (cellsN ns fun _ => .int .i64 0) 3)) w0.heap.size 3 ns (zv fun i => if i < 0 then 2 else 0) := (Arr.new w0 ns 3 (fun _ => .int .i64 0)).congr fun _ _ => by simp
  have hbA := below_alloc w0 (.cells (cellsN ns fun _ => .int .i64 0) 3)
  generalize w0.alloc (.cells (cellsN ns fun _ => .int .i64 0) 3) = w1 at hA0 hbA ⊢
  obtain ⟨gT, hgT⟩ : ∃ gT, w0.heap.size = gT := ⟨_, rfl⟩
  rw [hgT] at hA0 ⊢
  have HGT := Lib.hid hgT
  clear hgT d0 d1 d2
  go_loopw [4] (fun i wr => ∃ k : Nat, k ≤ ns ∧ i = .int .i64 k ∧ Below w0.heap.size w0 wr ∧ Arr wr gT 3 ns (zv fun i => if i < k then 2 else 0)) (fun i _ => ns - (intOf i).toNat)
  case atStart => exact ⟨0, by omega, rfl, hbA, hA0⟩
  case round =>
    obtain ⟨k, hk, rfl, hbr, hAr⟩ := hrel
    have hk0 : (0 : Int) ≤ (k : Int) := Int.natCast_nonneg _
    by_cases hkn : k < ns
    · have hk1 : (k : Int) < (ns : Int) := by omega
      have cA := hAr.cell k hkn
      have fA := hAr.frozen k
      have HN : Hid (Below w0.heap.size w0 (wr.setCell ⟨gT, k, none⟩ (.int .i64 2)) ∧ Arr (wr.setCell ⟨gT, k, none⟩ (.int .i64 2)) gT 3 ns (zv fun i => if i < (k + 1) then 2 else 0)) := Lib.hid ⟨below_set hbr (by have := HGT.out; omega) _, (hAr.set k (.int .i64 2)).congr fun i hi => by
        by_cases e : i = k
        · subst e; simp
        · have : i < k + 1 ↔ i < k := by omega
          simp [e, this]⟩
      clear hbr hAr
      go_wp2
      go_roundw
      case rel => exact ⟨k + 1, by omega, by go_num, HN.out⟩
      case measure => simp [intOf]; omega
    · obtain rfl : ns = k := by omega
      obtain ⟨wO, hwO⟩ : ∃ wO : World, wO = wr := ⟨_, rfl⟩
      subst hwO
      have d0 := (hbr.cell (p := ⟨gd, 0, none⟩) dlt).trans HD.out.1
      have d1 := (hbr.cell (p := ⟨gd, 1, none⟩) dlt).trans HD.out.2.1
      have d2 := (hbr.cell (p := ⟨gd, 2, none⟩) dlt).trans HD.out.2.2.1
      have hgdr : gd < wO.heap.size := Nat.lt_of_lt_of_le dlt hbr.size
      have hbw := below_step HB.out hbr
      have HBR := Lib.hid hbr
      have HBW := Lib.hid hbw
      have hA2 : Arr wO gT 3 ns (zv fun _ => 2) := hAr.congr fun i hi => by simp [zv, hi]
      have HA2 := Lib.hid hA2
      have hbD : Below wO.heap.size wO wO.drew := (Below.refl _ _).drew
      have hEm : (wO.alloc (.cells #[] 3)).drew.heap[wO.heap.size]? = some (.cells #[] 3 (0, 0)) := heap_alloc_new wO _
      have hrs : RI (wO.alloc (.cells #[] 3)).drew A ns s := ((HH.out.hs.keep hbw).alloc _)
      have hbE : Below wO.heap.size wO (wO.alloc (.cells #[] 3)).drew := (below_alloc wO _).drew
      have CMv : ∀ W, Below wO.heap.size wO W → Hid (Calls Try.prog 52 #[dval A ns cs B nm cm lp, .slice (some ⟨gT, 0, none⟩) ns ns, .bool false] W (RmPost W nm (rot fun _ => 2) (matesOf m))) := fun W hW => Lib.hid
        (rmove_false A B (some ⟨gT, 0, none⟩) ns cs nm cm ns lp (zL ns fun _ => 2) m (rot fun _ => 2) W (HH.out.hm.keep (below_step HBW.out hW)) (ri_zL (HA2.out.keep hW)) HNM.out hns HMV.out (fun c hc => by rw [zL_get _ hc]; omega) (rot_place _ _) (fun x hx => rev_turn2 (by have := HNM.out; omega)))
      have d0d : wO.drew.cell? ⟨gd, 0, none⟩ = some (.slice A ns cs) := d0
      have d1d : wO.drew.cell? ⟨gd, 1, none⟩ = some (.slice B nm cm) := d1
      have d2d : wO.drew.cell? ⟨gd, 2, none⟩ = some (.int .i64 lp) := d2
      have HEM := Lib.hid hEm
      have HRS := Lib.hid hrs
      clear hbr hAr hbw hkn hk hA2 hEm hrs
      go_wp2
      go_region_held3 (fun w' => w'.cell? ⟨gd, 0, none⟩ = some (.slice A ns cs) ∧ w'.cell? ⟨gd, 1, none⟩ = some (.slice B nm cm) ∧ w'.cell? ⟨gd, 2, none⟩ = some (.int .i64 lp))
        (first | exact ⟨d0d, d1d, d2d⟩ | exact ⟨((hbE).cell (p := ⟨gd, 0, none⟩) hgdr).trans d0, ((hbE).cell (p := ⟨gd, 1, none⟩) hgdr).trans d1, ((hbE).cell (p := ⟨gd, 2, none⟩) hgdr).trans d2⟩ | exact ⟨((hb3).cell (p := ⟨gd, 0, none⟩) hgdr).trans d0, ((hb3).cell (p := ⟨gd, 1, none⟩) hgdr).trans d1, ((hb3).cell (p := ⟨gd, 2, none⟩) hgdr).trans d2⟩ | exact ⟨((hb4).cell (p := ⟨gd, 0, none⟩) hgdr).trans d0, ((hb4).cell (p := ⟨gd, 1, none⟩) hgdr).trans d1, ((hb4).cell (p := ⟨gd, 2, none⟩) hgdr).trans d2⟩ | exact ⟨(set3_far w4 gr _ _ _ hne 0).trans (((hb4).cell (p := ⟨gd, 0, none⟩) hgdr).trans d0), (set3_far w4 gr _ _ _ hne 1).trans (((hb4).cell (p := ⟨gd, 1, none⟩) hgdr).trans d1), (set3_far w4 gr _ _ _ hne 2).trans (((hb4).cell (p := ⟨gd, 2, none⟩) hgdr).trans d2)⟩ | go_keep)
        (first
          | (refine dk_append_new rfl (.tmp 18) (.tmp 20) rfl wO.heap.size wO.heap.size (by rfl) HEM.out (Nat.le_refl _) A ns cs s (by rfl) HRS.out (by omega) ?_; intro A1 c1 w3 kx oS3 _ _ _ hgr3; have hb3 : Below wO.heap.size wO w3 := hbE.grown hgr3 hbE.size (by intro q hq; injection hq with hq; omega))
          | (go_at_call 52; ((with_reducible refine (CMv _ hb3).out.mono ?_); rintro e w4 ⟨gO, rfl, hAO, hgO, hb4'⟩; have hb4 := below_step hb3 hb4'; have hr := HBX.out.kp (below_step HBR.out hb4); have r0 := hr.1.1; have r1 := hr.1.2.1; have r2 := hr.1.2.2.1; have f0 := hr.2 0; have f1 := hr.2 1; have f2 := hr.2 2)))
      obtain ⟨k0, k1, k2⟩ := set3_cells w4 gr (.slice A1 ns c1) (.slice (some ⟨gO, 0, none⟩) nm nm) (.int .i64 lp) r0 r1 r2
      have HP : Hid (RsPost w ns nm lp s m (opT 2 0 s) (opP 2 0) (.returned (dval A1 ns c1 (some ⟨gO, 0, none⟩) nm nm lp)) (set3 w4 gr (.slice A1 ns c1) (.slice (some ⟨gO, 0, none⟩) nm nm) (.int .i64 lp))) := Lib.hid (by
        have hg := HLT.out
        have h4 := HB.out.size
        have h5 := HBR.out.size
        have h6 := hb3.size
        have eT : opT 2 0 s = rot fun _ => 2 := by unfold opT; simp
        have rS := (oS3.rf.mono (B' := w0.heap.size) (by omega)).keep hb4'
        have rO := rf_arr (B := w0.heap.size) hAO (by omega)
        refine ⟨A1, c1, _, nm, _, _, rfl, (rS.set3 (by omega) _ _ _).mono h4, (rO.set3 (by omega) _ _ _).mono h4, ?_, set3_below (below_step HBW.out hb4) (by omega) _ _ _⟩
        rw [eT]
        exact moved_mv2 HLS.out (fun c hc => rfl) HNM.out (rot_place _ _))
      go_wp2
      exact bodyPost_ret (v := dval A1 ns c1 (some ⟨gO, 0, none⟩) nm nm lp) (by simp [results, Try.results21, go_sem, k0, k1, k2]) rfl HP.out


end Go.Proofs.Ytdamfoobnbjojaa

/- Walks: the reference's Turn and Out. -/
namespace Go.Proofs.Ytdamfoobnbjojaa
open Go.RowKit

set_option maxHeartbeats 400000 in
theorem rturn_any (h k : Int) (w : World) (hlo : -9223372036854775808 ≤ h) (hhi : h ≤ 9223372036854775807) (_klo : -9223372036854775808 ≤ k) (_khi : k ≤ 9223372036854775807) :
    Calls Try.prog 101 #[.int .i64 h, .int .i64 k] w fun e w' => e = .returned (.int .i64 (turnI h k)) ∧ w = w' := by
  obtain ⟨ht1, ht2⟩ := tmod4 k
  by_cases hn : h < 0
  · go_enter Try.func101, Try.ntmps101
    go_wp2
    go_ret
    exact ⟨ret_int (by simp [turnI, hn]), rfl⟩
  · have hn' : 0 ≤ h := by omega
    by_cases hp : 0 ≤ h % 4 + k.tmod 4
    · go_enter Try.func101, Try.ntmps101
      go_wp2
      go_ret
      exact ⟨ret_int (by rw [turnI, if_neg (by omega)]; omega), rfl⟩
    · have ht : (h % 4 + k.tmod 4).tmod 4 = h % 4 + k.tmod 4 := tmod_small _ (by omega) (by omega)
      go_enter Try.func101, Try.ntmps101
      go_wp2
      go_ret
      exact ⟨ret_int (by rw [turnI, if_neg (by omega)]; omega), rfl⟩

set_option maxHeartbeats 800000 in
theorem rout_any (A : Option Addr) (ns cs : Nat) (signs : List Int) (h : Nat) (w : World) (hs : RI w A ns signs) (hh : h / 4 < ns) (hns : ns ≤ 1000000) :
    Calls Try.prog 46 #[.slice A ns cs, .int .i64 h] w fun e w' => e = .returned (.bool (outB signs h)) ∧ w = w' := by
  obtain ⟨b, off, rfl, hb, hc⟩ := hs.2 (by omega)
  have hcell : w.cell? ⟨b, off + h / 4, none⟩ = some (.int .i64 (signs.getD (h / 4) 0)) := hc _ hh
  generalize hx : signs.getD (h / 4) 0 = x at hcell
  clear hs hc
  rcases mod4_cases h with h4 | h4 | h4 | h4
  · have h4' : (h : Int) % 4 = 0 := by omega
    have e : outB signs h = false := by simp [outB, h4]
    rw [e]; clear e h4 hx
    go_enter Try.func46, Try.ntmps46
    go_wp2
    go_ret
    exact ⟨rfl, rfl⟩
  · have h4' : (h : Int) % 4 = 1 := by omega
    have e : outB signs h = (x == 1) := by simp only [outB, h4, hx]; rfl
    rw [e]; clear e h4 hx
    go_enter Try.func46, Try.ntmps46
    go_wp2
    go_ret
    exact ⟨rfl, rfl⟩
  · have h4' : (h : Int) % 4 = 2 := by omega
    have e : outB signs h = true := by simp [outB, h4]
    rw [e]; clear e h4 hx
    go_enter Try.func46, Try.ntmps46
    go_wp2
    go_ret
    exact ⟨rfl, rfl⟩
  · have h4' : (h : Int) % 4 = 3 := by omega
    have e : outB signs h = (x == -1) := by simp only [outB, h4, hx]; rfl
    rw [e]; clear e h4 hx
    go_enter Try.func46, Try.ntmps46
    go_wp2
    go_ret
    exact ⟨rfl, rfl⟩

end Go.Proofs.Ytdamfoobnbjojaa

/- Plain mathematics: labels by passes. -/
namespace Go.Proofs.Ytdamfoobnbjojaa

def lowStep (m : Nat → Nat) (l : Nat → Nat) (h : Nat) : Nat → Nat := upd (upd l (h / 4) (min (l (h / 4)) (l (m h / 4)))) (m h / 4) (min (l (h / 4)) (l (m h / 4)))
def passAt (m : Nat → Nat) (l : Nat → Nat) : Nat → Nat → Nat
  | 0 => l
  | k + 1 => lowStep m (passAt m l k) k
def labAt (m : Nat → Nat) (N : Nat) : Nat → Nat → Nat
  | 0 => fun i => i
  | p + 1 => passAt m (labAt m N p) N

theorem lowStep_le (m l : Nat → Nat) (h i : Nat) : lowStep m l h i ≤ l i := by
  unfold lowStep upd
  by_cases e1 : i = m h / 4
  · subst e1; simp only [if_pos]; omega
  · rw [if_neg e1]
    by_cases e2 : i = h / 4
    · subst e2; simp only [if_pos]; omega
    · rw [if_neg e2]; exact Nat.le_refl _
theorem lowStep_a (m l : Nat → Nat) (h : Nat) : lowStep m l h (h / 4) = min (l (h / 4)) (l (m h / 4)) := by
  unfold lowStep upd; split <;> simp
theorem lowStep_b (m l : Nat → Nat) (h : Nat) : lowStep m l h (m h / 4) = min (l (h / 4)) (l (m h / 4)) := by
  unfold lowStep upd; simp
theorem pass_le (m l : Nat → Nat) (k i : Nat) : passAt m l k i ≤ l i := by
  induction k with
  | zero => exact Nat.le_refl _
  | succ k ih => exact Nat.le_trans (lowStep_le _ _ _ _) ih
theorem pass_edge (m l : Nat → Nat) (k h : Nat) (hh : h < k) : passAt m l k (h / 4) ≤ l (m h / 4) ∧ passAt m l k (m h / 4) ≤ l (h / 4) := by
  induction k with
  | zero => omega
  | succ k ih =>
    show lowStep m (passAt m l k) k _ ≤ _ ∧ lowStep m (passAt m l k) k _ ≤ _
    by_cases e : h = k
    · subst e
      rw [lowStep_a, lowStep_b]
      have h1 := pass_le m l h (h / 4)
      have h2 := pass_le m l h (m h / 4)
      omega
    · obtain ⟨h1, h2⟩ := ih (by omega)
      exact ⟨Nat.le_trans (lowStep_le _ _ _ _) h1, Nat.le_trans (lowStep_le _ _ _ _) h2⟩
theorem pass_conn (m l : Nat → Nat) (N k : Nat) (hk : k ≤ N) (hl : ∀ i, Conn m N i (l i)) (i : Nat) : Conn m N i (passAt m l k i) := by
  induction k generalizing i with
  | zero => exact hl i
  | succ k ih =>
    have h0 := ih (by omega)
    have e : Conn m N (k / 4) (m k / 4) := .step k (by omega) (.refl _)
    show Conn m N i (lowStep m (passAt m l k) k i)
    generalize passAt m l k = p at *
    have hmin : min (p (k / 4)) (p (m k / 4)) = p (k / 4) ∨ min (p (k / 4)) (p (m k / 4)) = p (m k / 4) := by omega
    by_cases e1 : i = m k / 4
    · subst e1; rw [lowStep_b]
      rcases hmin with h | h <;> rw [h]
      · exact e.symm.trans (h0 _)
      · exact h0 _
    · by_cases e2 : i = k / 4
      · subst e2; rw [lowStep_a]
        rcases hmin with h | h <;> rw [h]
        · exact h0 _
        · exact e.trans (h0 _)
      · have : lowStep m p k i = p i := by unfold lowStep upd; rw [if_neg e1, if_neg e2]
        rw [this]; exact h0 i
theorem lab_conn (m : Nat → Nat) (N p i : Nat) : Conn m N i (labAt m N p i) := by
  induction p generalizing i with
  | zero => exact .refl _
  | succ p ih => exact pass_conn m _ N N (Nat.le_refl _) ih i
theorem lab_le (m : Nat → Nat) (N p i : Nat) : labAt m N p i ≤ i := by
  induction p generalizing i with
  | zero => exact Nat.le_refl _
  | succ p ih => exact Nat.le_trans (pass_le _ _ _ _) (ih i)
theorem leaving {m : Nat → Nat} {N : Nat} {P : Nat → Prop} {a b : Nat} (hc : Conn m N a b) (ha : P a) (hb : ¬ P b) : ∃ h, h < N ∧ ((P (h / 4) ∧ ¬ P (m h / 4)) ∨ (P (m h / 4) ∧ ¬ P (h / 4))) := by
  induction hc with
  | refl => exact absurd ha hb
  | step h hh _ ih =>
    rcases Classical.em (P (h / 4)) with hp | hp
    · exact ⟨h, hh, .inl ⟨hp, hb⟩⟩
    · exact ih hp
  | back h hh _ ih =>
    rcases Classical.em (P (m h / 4)) with hp | hp
    · exact ⟨h, hh, .inr ⟨hp, hb⟩⟩
    · exact ih hp

theorem countP_lt {p q : Nat → Bool} {n : Nat} (h : ∀ i, i < n → p i = true → q i = true) (j : Nat) (hj : j < n) (h1 : p j = false) (h2 : q j = true) : (List.range n).countP p + 1 ≤ (List.range n).countP q := by
  induction n with
  | zero => omega
  | succ n ih =>
    rw [List.range_succ, List.countP_append, List.countP_append]
    simp only [List.countP_cons, List.countP_nil]
    by_cases e : j = n
    · subst e
      have hle : (List.range j).countP p ≤ (List.range j).countP q := List.countP_mono_left (by
        intro x hx hp; exact h x (by have := List.mem_range.1 hx; omega) hp)
      rw [h1, h2]; simp; omega
    · have := ih (fun i hi => h i (by omega)) (by omega)
      have h3 := h n (by omega)
      cases hp : p n with
      | false => simp; omega
      | true => rw [h3 hp]; simp; omega

/-- n passes are enough. -/
theorem labAt_eq {m : Nat → Nat} {N n : Nat} {F : Nat → Nat} (hN : N = 4 * n) (hm : ∀ h, h < N → m h < N) (hF : IsLab m N n F) (c : Nat) (hc : c < n) : labAt m N n c = F c := by
  have key : ∀ p, (∀ x, x < n → F x = F c → labAt m N p x = F c) ∨ p + 1 ≤ (List.range n).countP (fun x => labAt m N p x == F c) := by
    have hge : ∀ p x, x < n → F x = F c → F c ≤ labAt m N p x := fun p x hx e => by
      have h1 := hF.conn (lab_conn m N p x)
      have h2 := lab_le m N p x
      have h3 := (hF.1 (labAt m N p x) (by omega)).1
      omega
    have hFc := hF.1 c hc
    have hFF : F (F c) = F c := (hF.conn hFc.2).symm
    intro p
    induction p with
    | zero =>
      right
      have h0 : (List.range n).countP (fun _ => false) = 0 := by simp
      have := countP_lt (p := fun _ => false) (q := fun x => labAt m N 0 x == F c) (n := n) (fun _ _ h => by cases h) (F c) (by omega) rfl (by simp [labAt])
      omega
    | succ p ih =>
      rcases ih with ih | ih
      · left
        intro x hx e
        have h1 := pass_le m (labAt m N p) N x
        have h2 := hge (p + 1) x hx e
        have h3 := ih x hx e
        show passAt m (labAt m N p) N x = F c
        have h4 : F c ≤ passAt m (labAt m N p) N x := h2
        omega
      · by_cases hall : ∀ x, x < n → F x = F c → labAt m N p x = F c
        · left
          intro x hx e
          have h1 := pass_le m (labAt m N p) N x
          have h4 : F c ≤ passAt m (labAt m N p) N x := hge (p + 1) x hx e
          have h3 := hall x hx e
          show passAt m (labAt m N p) N x = F c
          omega
        · right
          have hmono : ∀ i, i < n → (labAt m N p i == F c) = true → (labAt m N (p + 1) i == F c) = true := fun i hi e => by
            have e' : labAt m N p i = F c := by simpa using e
            have hfi : F i = F c := by rw [hF.conn (lab_conn m N p i), e', hFF]
            have h1 := pass_le m (labAt m N p) N i
            have h4 : F c ≤ passAt m (labAt m N p) N i := hge (p + 1) i hi hfi
            have h5 : labAt m N (p + 1) i = F c := by show passAt m (labAt m N p) N i = F c; omega
            rw [h5]; simp
          have hex : ∃ x, x < n ∧ F x = F c ∧ labAt m N p x ≠ F c := Classical.byContradiction fun h => hall fun x hx e => Classical.byContradiction fun h' => h ⟨x, hx, e, h'⟩
          obtain ⟨x, hx, e, hne⟩ := hex
          have hcr : Conn m N (F c) x := by
            have h1 := (hF.1 x hx).2
            rw [e] at h1; exact h1.symm
          have hr : labAt m N p (F c) = F c := by
            have h1 := lab_le m N p (F c)
            have h2 := hge p (F c) (by omega) hFF
            omega
          obtain ⟨h, hh, hcase⟩ := leaving (P := fun y => labAt m N p y = F c) hcr hr hne
          have hmh := hm h hh
          have hp := pass_edge m (labAt m N p) N h hh
          have hv : ∃ v, v < n ∧ labAt m N p v ≠ F c ∧ labAt m N (p + 1) v = F c := by
            rcases hcase with ⟨h1, h2⟩ | ⟨h1, h2⟩
            · refine ⟨m h / 4, by omega, h2, ?_⟩
              have hf1 : F (h / 4) = F c := by rw [hF.conn (lab_conn m N p (h / 4)), h1, hFF]
              have hf2 : F (m h / 4) = F c := by rw [← hF.2 h hh, hf1]
              have h4 : F c ≤ passAt m (labAt m N p) N (m h / 4) := hge (p + 1) _ (by omega) hf2
              show passAt m (labAt m N p) N (m h / 4) = F c
              omega
            · refine ⟨h / 4, by omega, h2, ?_⟩
              have hf1 : F (m h / 4) = F c := by rw [hF.conn (lab_conn m N p (m h / 4)), h1, hFF]
              have hf2 : F (h / 4) = F c := by rw [hF.2 h hh, hf1]
              have h4 : F c ≤ passAt m (labAt m N p) N (h / 4) := hge (p + 1) _ (by omega) hf2
              show passAt m (labAt m N p) N (h / 4) = F c
              omega
          obtain ⟨v, hv1, hv2, hv3⟩ := hv
          have := countP_lt hmono v hv1 (by simpa using hv2) (by simpa using hv3)
          omega
  rcases key n with h | h
  · exact h c hc rfl
  · have : (List.range n).countP (fun x => labAt m N n x == F c) ≤ n := Nat.le_trans List.countP_le_length (by simp)
    omega

end Go.Proofs.Ytdamfoobnbjojaa
