import Derived.Test.YtebliaclleplgaaDoorE05
import Derived.Test.YtebliaclleplgaaDoorE07
import Derived.Maps.OwnSet
import Derived.Maps.OwnOps
import Derived.Lib.SmallJoins
import Derived.Lib.AppendIntMem
import Derived.Laws.BytesArg
/- Walk: labelsOf. -/
namespace Go.Proofs.YtebliaclleplgaaDoor
open Go.RowKit

/-- Behind w2 only block g has changed. -/
structure Kp (w2 wr : World) (g : Nat) : Prop where
  size : w2.heap.size ≤ wr.heap.size
  cell : ∀ b i, b < w2.heap.size → b ≠ g → wr.cell? ⟨b, i, none⟩ = w2.cell? ⟨b, i, none⟩
theorem Kp.refl (w : World) (g : Nat) : Kp w w g := ⟨Nat.le_refl _, fun _ _ _ _ => rfl⟩
theorem Kp.set {w2 wr : World} {g : Nat} (h : Kp w2 wr g) (i : Nat) (u : Value) : Kp w2 (wr.setCell ⟨g, i, none⟩ u) g :=
  ⟨by simp [World.setCell]; exact h.size, fun b j hb hne => by rw [World.cell?_setCell_other _ _ _ _ (by first | (simp; done) | (simp; omega))]; exact h.cell b j hb hne⟩
theorem OI.shp {w : World} {B : Nat} {v : Value} {xs : List Int} (h : OI w B v xs) : ∃ A c, v = .slice A xs.length c ∧ RI w A xs.length xs ∧ ∀ b o, A = some ⟨b, o, none⟩ → B ≤ b := by
  rcases OI.form h with ⟨rfl, rfl⟩ | ⟨g, cap, rfl, hg, _⟩
  · exact ⟨none, 0, rfl, RI.nil _ _, fun b o e => by cases e⟩
  · exact ⟨_, cap, rfl, h.ri, fun b o e => by injection e with e; injection e with e1 _ _; omega⟩

set_option maxHeartbeats 3200000 in
set_option maxRecDepth 100000 in
theorem labels_any (A B : Option Addr) (ns cs nm cm : Nat) (lp : Int) (s m : List Int) (w : World) (h : DV w A ns B nm s m) (hv : validB s m lp = true) :
    Calls Tryd.prog 25 #[dval A ns cs B nm cm lp] w fun e w' => ∃ g, e = .returned (.slice (some ⟨g, 0, none⟩) nm nm) ∧ Arr w' g 3 nm (iv (lbM s m lp)) ∧ w.heap.size ≤ g ∧ Below w.heap.size w w' := by
  have F := bk_facts hv
  have hls := h.hs.1
  have hlm := h.hm.1
  have hl4 := F.lm
  have h64 := F.le
  have hmm : ∀ x, x < nm → m.getD x 0 = (matesOf m x : Int) ∧ matesOf m x < nm := matesOf_mates F.pr hlm
  have hsl := seq_len hv
  have hsq : ∀ k, k < (seqM s m lp).length → ∃ x : Nat, (seqM s m lp).getD k 0 = (x : Int) ∧ x < nm := fun k hk => by
    obtain ⟨x, e, hx, _⟩ := seq_at hv (k := k) (by omega)
    exact ⟨x, e, by omega⟩
  have hnm : nm ≤ 256 := by omega
  have hd := DB.new w A ns cs B nm cm lp
  have hb0 := below_alloc w (dbox A ns cs B nm cm lp)
  have hmk := fun W => make_one (P := Tryd.prog) Tryd.underlying22 Tryd.infoInt rfl nm (by omega) (by omega) W
  have hbM := below_alloc (w.alloc (dbox A ns cs B nm cm lp)) (.cells (cellsN nm fun _ => .int .i64 0) 3)
  have HDM := Lib.hid (hd.keep hbM)
  have HDV := Lib.hid ((h.keep hb0).keep hbM)
  have HA0 := Lib.hid ((Arr.new (w.alloc (dbox A ns cs B nm cm lp)) nm 3 (fun _ => .int .i64 0)).congr (V' := iv (lbK (matesOf m) (seqM s m lp) 0)) fun _ _ => rfl)
  have hsz : (w.alloc (dbox A ns cs B nm cm lp)).heap.size = w.heap.size + 1 := by simp
  rw [hsz] at HA0
  have hb00 := below_step hb0 hbM
  have hsz2 : ((w.alloc (dbox A ns cs B nm cm lp)).alloc (.cells (cellsN nm fun _ => .int .i64 0) 3)).heap.size = w.heap.size + 2 := by simp
  have CC : ∀ (W : World) (A' : Option Addr) (c : Nat), RO W A' (strandsM s m lp).length (strandsM s m lp) → Hid (Calls Tryd.prog 57 #[.slice A' (strandsM s m lp).length c] W fun e w' => ∃ v, e = .returned v ∧ OI w' W.heap.size v (seqM s m lp) ∧ Below W.heap.size W w') := fun W A' c hr => by
    have h1 := strandsM_le (signs := s) (mate := m) (lp := lp)
    exact concat_any A' _ c (strandsM s m lp) W hr (by omega) (by unfold seqM at hsl; omega) (fun j hj => strands_ne hj)
  have CS : ∀ W, DV W A ns B nm s m → Hid (Calls Tryd.prog 17 #[dval A ns cs B nm cm lp] W (CycsPost W (strandsM s m lp))) := fun W h => strands_any A B ns cs nm cm lp s m W h
  have HM := Lib.hid h.hm
  have HMM := Lib.hid hmm
  have HSQ := Lib.hid hsq
  have HLB : Hid (lbK (matesOf m) (seqM s m lp) (seqM s m lp).length = lbM s m lp) := Lib.hid rfl
  obtain ⟨pM, hpM⟩ : ∃ pM, matesOf m = pM := ⟨_, rfl⟩
  obtain ⟨xss, hxs⟩ : ∃ xss, strandsM s m lp = xss := ⟨_, rfl⟩
  obtain ⟨q, hq⟩ : ∃ q, seqM s m lp = q := ⟨_, rfl⟩
  obtain ⟨fin, hfin⟩ : ∃ fin, lbM s m lp = fin := ⟨_, rfl⟩
  rw [hfin] at HLB ⊢
  rw [hpM] at HMM HA0 HLB
  simp only [hxs, hq] at CC CS HSQ HA0 HLB hsl
  have hql : q.length ≤ 128 := by omega
  obtain ⟨L, hL⟩ : ∃ L, q.length = L := ⟨_, rfl⟩
  rw [hL] at HSQ HLB hql
  have HL := Lib.hid hL
  clear hmm hsq F hl4 h64 hsl hls hlm h hv hpM hxs hq hfin hL
  obtain ⟨d0, d1, d2, dlt⟩ := hd
  unfold dbox at *
  go_enter Tryd.func25, Tryd.ntmps25
  go_upto_region 2 with fail
  generalize ((w.alloc (.cells #[.slice A ns cs, .slice B nm cm, .int .i64 lp] 24)).alloc (.cells (cellsN nm fun _ => .int .i64 0) 3)) = wM at *
  clear d0 d1 d2 dlt
  obtain ⟨x0, x1, x2, xlt⟩ := HDM.out
  go_wp2_with (first
    | (go_at_call 17; ((with_reducible refine (CS _ HDV.out).out.mono ?_); rintro e w1 ⟨v1, rfl, ho1, hb1⟩; obtain ⟨A1, c1, rfl, hro1⟩ := ho1.ro))
    | (go_at_call 57; ((with_reducible refine (CC _ _ _ hro1).out.mono ?_); rintro e w2 ⟨v2, rfl, ho2, hb2⟩; obtain ⟨A2, c2, rfl, hr2, hg2⟩ := OI.shp ho2; rw [HL.out])))
  rw [HL.out] at hr2
  have hb02 := below_step hb1 hb2
  have HDB2 := Lib.hid (HDM.out.keep hb02)
  have HA2 := Lib.hid (HA0.out.keep hb02)
  have HR2 := Lib.hid hr2
  have HG2 := Lib.hid hg2
  have HM2 := Lib.hid ((HM.out.keep hb00).keep hb02)
  have hs1 := hb1.size
  have hs2 := hb2.size
  have hbw := below_step hb00 hb02
  clear ho1 hro1 ho2 hr2 hg2
  go_loopw [4, 5, 14] (fun _ _ i wr => ∃ k : Nat, k ≤ L ∧ i = .int .i64 k ∧ Below w.heap.size w wr ∧ Kp w2 wr (w.heap.size + 1) ∧ Arr wr (w.heap.size + 1) 3 nm (iv (lbK pM q k))) (fun _ _ i _ => L - (intOf i).toNat)
  case atStart => exact ⟨0, by omega, rfl, hbw, Kp.refl _ _, HA2.out⟩
  case round =>
    obtain ⟨k, hk, rfl, hbr, hkp, har⟩ := hrel
    have hk0 : (0 : Int) ≤ (k : Int) := Int.natCast_nonneg _
    by_cases hlt : k < L
    · obtain ⟨x, hx, hxn⟩ := HSQ.out k hlt
      obtain ⟨bq, oq, e1, hbq, hcq⟩ := HR2.out.2 (by omega)
      subst e1
      have hgq := HG2.out bq oq rfl
      obtain ⟨bB, oB, e2, hbB, hcB⟩ := HM.out.2 (by omega)
      subst e2
      have hyn := (HMM.out x hxn).2
      have hy := (HMM.out x hxn).1
      have c1 : wr.cell? ⟨bq, oq + k, none⟩ = some (.int .i64 (x : Nat)) := by rw [hkp.cell bq _ hbq (by omega), hcq k hlt, hx]
      have c2 : wr.cell? ⟨w.heap.size, 1, none⟩ = some (.slice (some ⟨bB, oB, none⟩) nm cm) := by rw [hkp.cell _ _ (by omega) (by omega)]; exact HDB2.out.2.1
      have c3 : wr.cell? ⟨bB, oB + x, none⟩ = some (.int .i64 (pM x : Nat)) := by
        rw [hkp.cell bB _ (by omega) (by omega), (hb02.cell (p := ⟨bB, oB + x, none⟩) (show bB < wM.heap.size by omega)), (hb00.cell (p := ⟨bB, oB + x, none⟩) hbB), hcB x hxn, hy]
      have hfr := har.frozen
      have f1 := hfr x
      have f2 := hfr (pM x)
      have k1 := har.cell x hxn
      have k2 := har.cell (pM x) hyn
      have HKP := Lib.hid hkp
      have HAR := Lib.hid har
      have har1 := har.seti x (k + 1)
      rw [show ((k + 1 : Nat) : Int) = (k : Int) + 1 by omega] at har1
      have k3 := har1.cell (pM x) hyn
      have f3 := har1.frozen (pM x)
      have HX := Lib.hid hx
      obtain ⟨y, hyy⟩ : ∃ y, pM x = y := ⟨_, rfl⟩
      rw [hyy] at hyn c3 f2 k2 k3 f3
      have HY := Lib.hid hyy
      have hx0 : (0 : Int) ≤ (x : Int) := Int.natCast_nonneg _
      have hx1 : (x : Int) < (nm : Int) := by omega
      have hy0 : (0 : Int) ≤ (y : Int) := Int.natCast_nonneg _
      have hy1 : (y : Int) < (nm : Int) := by omega
      have hk1 : (k : Int) < (L : Int) := by omega
      have hkw : IntKind.i64.wrap ((k : Int) + 1) = (k : Int) + 1 := IntWalk.i64_in _ (by omega)
      clear hcq hcB hkp har hfr hx hyy hy har1
      go_wp2
      go_roundw
      case rel => exact ⟨k + 1, by omega, by go_num, below_set (below_set hbr (by omega) _) (by omega) _, (HKP.out.set _ _).set _ _, by
        have h1 := (HAR.out.seti x (k + 1)).seti y (k + 1)
        have e : lbK pM q (k + 1) = upd (upd (lbK pM q k) x (k + 1)) y (k + 1) := by
          show upd (upd (lbK pM q k) (q.getD k 0).toNat (k + 1)) (pM (q.getD k 0).toNat) (k + 1) = _
          rw [HX.out, Int.toNat_natCast, HY.out]
        rw [e]
        exact h1⟩
      case measure => simp [intOf]; omega
    · obtain rfl : L = k := by omega
      have HAR := Lib.hid har
      clear har hkp
      go_wp2
      go_ret
      exact ⟨_, rfl, by have := HAR.out; rw [HLB.out] at this; exact this, by omega, hbr⟩

end Go.Proofs.YtebliaclleplgaaDoor

/- Walk: readMates. -/
namespace Go.Proofs.YtebliaclleplgaaDoor
open Go.ChangeShapes Go.WideShapes Go.ChangeAt Go.RowKit Go.Joins Go.Maps

theorem lawI : Keyed Tryd.prog 3 := int_keyed Tryd.underlying3
/-- The map reads as the set T. -/
def ISeen (D : DataW Unit) (T : List Nat) : Prop := ∀ x : Nat, D.atKey (.int .i64 (x : Int)) (.lit (.bool false)) = .lit (.bool (decide (x ∈ T)))
theorem ISeen.empty : ISeen (.map []) [] := fun x => by simp [DataW.atKey]
theorem ISeen.put {D : DataW Unit} {T : List Nat} (h : ISeen D T) (hT : Tidy D) (x : Nat) : ISeen (D.put (.int .i64 (x : Int)) (.lit (.bool true))) (T ++ [x]) := fun y => by
  by_cases e : y = x
  · subst e
    have hk : WideAt.IsKeyLit (Lit.int .i64 (y : Int)) := trivial
    rw [atKey_put_same hT.isMap hk]
    simp
  · have hne : (Lit.int .i64 (y : Int)) ≠ Lit.int .i64 (x : Int) := fun q => by injection q with _ q; omega
    rw [atKey_put_other hne, h y]
    simp [e]
def SeenJ (w : World) (b : Nat) (T : List Nat) : Prop := ∃ D : DataW Unit, w.ownsMap Tryd.prog 3 (plainElem Tryd.prog 4) b T.length D ∧ ISeen D T
set_option maxRecDepth 100000 in
theorem look_int {w : World} {b n : Nat} {D : DataW Unit} {t : TypeId} (h : w.ownsMap Tryd.prog 3 (plainElem Tryd.prog 4) b n D) (ht : Tryd.prog.underlying t = some (.map 3 4)) {T : List Nat} (hS : ISeen D T) {x : Nat} (hx : x < 1000) :
    (Instr.lookup t (.map (some b)) (.int .i64 (x : Nat)) false).run Tryd.prog w = .ok (.bool (decide (x ∈ T))) w := by
  have hz : (zeroValue 4).run Tryd.prog w = .ok (.bool false) w := by kernel_rfl
  have hw : (Lit.int .i64 (x : Int)).wf = true := WalkArith.wf_i64 (by omega)
  obtain ⟨u, ps, hrun, hR⟩ := h.lookup lawI ht hz (plainElem_bool Tryd.underlying4 false) (keyOf_int_mk Tryd.underlying3 hw)
  rw [hS x] at hR
  have : u = .bool (decide (x ∈ T)) := by
    unfold plainElem at hR
    rw [Tryd.underlying4] at hR
    cases u <;> simp at hR
    rw [hR.1]
  rw [this] at hrun
  exact hrun

def RMPost (sg : List Int) (Y : Nat → Nat) (nm : Nat) (w : World) (e : Ending) (w' : World) : Prop :=
  (((msK sg Y nm nm).ok = true ∧ e = .returned (.tuple #[.slice (some ⟨w.heap.size, 0, none⟩) nm nm, .bool true]) ∧ RI w' (some ⟨w.heap.size, 0, none⟩) nm (lnM nm (msK sg Y nm nm).M)) ∨ ((msK sg Y nm nm).ok = false ∧ e = .returned (.tuple #[.slice none 0 0, .bool false]))) ∧ Below w.heap.size w w'

set_option maxHeartbeats 6400000 in
set_option maxRecDepth 100000 in
theorem readMates_any (A S : Option Addr) (n2 c n cs nm : Nat) (zs sg : List Int) (w : World) (hA : RB w A n2 zs) (h2 : n2 = 2 * n) (hS : RI w S n sg) (hn : n ≤ 64) (hsg : sgnsB sg = true) (hz : byteL zs) (hnm : nm = 4 * n) :
    Calls Tryd.prog 54 #[.slice A n2 c, .slice S n cs] w (RMPost sg (yN zs) nm w) := by
  have hmk := fun W => make_one (P := Tryd.prog) Tryd.underlying22 Tryd.infoInt rfl nm (by omega) (by omega) W
  have hmm := @run_makeMap Tryd.prog
  have hb0 := below_alloc w (.cells (cellsN nm fun _ => .int .i64 0) 3)
  have hA0 : Arr (w.alloc (.cells (cellsN nm fun _ => .int .i64 0) 3)) w.heap.size 3 nm (iv (msK sg (yN zs) nm 0).M) := (Arr.new w nm 3 fun _ => .int .i64 0).congr fun i _ => rfl
  have HA1 := Lib.hid (hA0.alloc (.map #[] 0))
  have hbB := below_step hb0 (below_alloc (w.alloc (.cells (cellsN nm fun _ => .int .i64 0) 3)) (.map #[] 0))
  have hsz : (w.alloc (.cells (cellsN nm fun _ => .int .i64 0) 3)).heap.size = w.heap.size + 1 := by simp
  have HS0 : Hid (SeenJ ((w.alloc (.cells (cellsN nm fun _ => .int .i64 0) 3)).alloc (.map #[] 0)) (w.heap.size + 1) []) := Lib.hid (by rw [← hsz]; exact ⟨_, World.ownsMap_made _ _ _ _, ISeen.empty⟩)
  have HB := Lib.hid hA
  have HSI := Lib.hid hS
  have HNM := Lib.hid hnm
  have HN2 := Lib.hid h2
  have HROOM : Hid (∀ k, k < nm → (msK sg (yN zs) nm k).ok = true → outB sg k = true → (msK sg (yN zs) nm k).nx < n2) := Lib.hid fun k hk h1 h3 => by
    subst hnm
    have := ms_room hsg hS.1 hk h1 h3
    omega
  have HINV : Hid (∀ k, k ≤ nm → (msK sg (yN zs) nm k).ok = true → (msK sg (yN zs) nm k).T.length ≤ k) := Lib.hid fun k hk h1 => (msK_inv k hk h1).2.2.2
  have HBAD : Hid (∀ k, k ≤ nm → (msK sg (yN zs) nm k).ok = false → (msK sg (yN zs) nm nm).ok = false) := Lib.hid fun k hk h1 => by
    have := msK_bad h1 (nm - k)
    rwa [show k + (nm - k) = nm by omega] at this
  have HY : Hid (∀ i, zs.getD i 0 = (yN zs i : Int) ∧ yN zs i < 256) := Lib.hid fun i => yN_cast hz i
  have m0 : IntKind.i64.wrap (4 * (n : Int)) = (nm : Int) := by rw [IntWalk.i64_in _ (by omega)]; omega
  have hnm256 : nm ≤ 256 := by omega
  have hn21 : n2 ≤ 128 := by omega
  obtain ⟨Y, hYY⟩ : ∃ Y, yN zs = Y := ⟨_, rfl⟩
  rw [hYY] at HA1 HROOM HINV HBAD HY ⊢
  clear hA hS hz hsg hA0 hb0 h2 hnm hYY
  go_enter Tryd.func54, Tryd.ntmps54
  go_upto_region 2 with fail
  go_upto_region 3 with fail
  generalize (w.alloc (.cells (cellsN nm fun _ => .int .i64 0) 3)).alloc (.map #[] 0) = wB at *
  clear hmm hsz
  go_wp2
  go_loopw [8, 9, 10, 18] (fun nx _ _ i wr => ∃ k : Nat, k ≤ nm ∧ i = .int .i64 k ∧ (msK sg Y nm k).ok = true ∧ nx = .int .i64 ((msK sg Y nm k).nx : Nat) ∧ Below w.heap.size w wr ∧ Arr wr w.heap.size 3 nm (iv (msK sg Y nm k).M) ∧ SeenJ wr (w.heap.size + 1) (msK sg Y nm k).T) (fun _ _ _ i _ => nm - (intOf i).toNat)
  case atStart => exact ⟨0, by omega, rfl, rfl, rfl, hbB, HA1.out, HS0.out⟩
  case round =>
    obtain ⟨k, hk, rfl, hok, rfl, hbr, har, hse⟩ := hrel
    have hk0 : (0 : Int) ≤ (k : Int) := Int.natCast_nonneg _
    by_cases hlt : k < nm
    · have hst : msK sg Y nm (k + 1) = msStep sg Y nm k (msK sg Y nm k) := rfl
      unfold msStep at hst
      rw [if_neg (by rw [hok]; decide)] at hst
      have hroom := HROOM.out k hlt hok
      have hinv := HINV.out k hk hok
      obtain ⟨st, hste⟩ : ∃ st, msK sg Y nm k = st := ⟨_, rfl⟩
      rw [hste] at hst hroom hinv har hse hok
      simp only [hste]
      obtain ⟨nx, M, T, ok⟩ := st
      simp only at hst hroom hinv har hse hok ⊢
      subst hok
      have hk1 : (k : Int) < (nm : Int) := by omega
      have CO := Lib.hid (isOut_any S n cs sg k wr (HSI.out.keep hbr) (by have := HNM.out; omega) (by omega))
      have HAR := Lib.hid har
      have HSE := Lib.hid hse
      have HST := Lib.hid hst
      have nx0 : (0 : Int) ≤ (nx : Int) := Int.natCast_nonneg _
      clear har hse hst hste
      cases ho : outB sg k with
      | false =>
        rw [ho] at CO HST
        rw [if_pos rfl] at HST
        clear ho hroom
        go_wp2_with ((go_at_call 51; ((with_reducible refine CO.out.mono ?_); rintro e w4 ⟨rfl, rfl⟩)))
        go_roundw
        case rel => exact ⟨k + 1, by omega, by go_num, by rw [HST.out], by rw [HST.out], hbr, by rw [HST.out]; exact HAR.out, by rw [HST.out]; exact HSE.out⟩
        case measure => simp [intOf]; omega
      | true =>
        rw [ho] at CO HST
        rw [if_neg (by decide)] at HST
        have hnx := hroom ho
        obtain ⟨b, o, rfl, hb, hc⟩ := HB.out.2 (by omega)
        obtain ⟨hze, hz256⟩ := HY.out nx
        have c0 := (hbr.cell (p := ⟨b, o + nx, none⟩) hb).trans (hc nx hnx)
        rw [hze] at c0
        obtain ⟨x, hx⟩ : ∃ x, Y nx = x := ⟨_, rfl⟩
        rw [hx] at c0 hz256 HST
        have x0 : (0 : Int) ≤ (x : Int) := Int.natCast_nonneg _
        have nx1 : (nx : Int) < (n2 : Int) := by omega
        have hnw : IntKind.i64.wrap ((nx : Int) + 1) = (nx : Int) + 1 := IntWalk.i64_in _ (by omega)
        clear ho hroom hc hze hx
        by_cases hxm : x < nm
        · have x1 : (x : Int) < (nm : Int) := by omega
          have CO2 := Lib.hid (isOut_any S n cs sg x wr (HSI.out.keep hbr) (by have := HNM.out; omega) (by omega))
          cases ho2 : outB sg x with
          | true =>
            have HF : Hid ((msK sg Y nm nm).ok = false) := Lib.hid (HBAD.out (k + 1) (by omega) (by rw [HST.out, if_pos (.inr (.inl ho2))]))
            rw [ho2] at CO2
            clear ho2
            go_wp2_with (first
              | (go_at_call 51; ((with_reducible refine CO2.out.mono ?_); rintro e w4 ⟨rfl, rfl⟩))
              | (go_at_call 51; ((with_reducible refine CO.out.mono ?_); rintro e w4 ⟨rfl, rfl⟩)))
            go_ret2
            exact ⟨.inr ⟨HF.out, rfl⟩, hbr⟩
          | false =>
            rw [ho2] at CO2
            obtain ⟨D, hown, hDS⟩ := HSE.out
            have hlk := look_int hown Tryd.underlying101 hDS (x := x) (by omega)
            by_cases h3 : x ∈ T
            · have HF : Hid ((msK sg Y nm nm).ok = false) := Lib.hid (HBAD.out (k + 1) (by omega) (by rw [HST.out, if_pos (.inr (.inr h3))]))
              rw [decide_eq_true h3] at hlk
              clear h3 ho2 hown hDS
              go_wp2_with (first
                | (go_at_call 51; ((with_reducible refine CO2.out.mono ?_); rintro e w4 ⟨rfl, rfl⟩))
                | (go_at_call 51; ((with_reducible refine CO.out.mono ?_); rintro e w4 ⟨rfl, rfl⟩)))
              go_ret2
              exact ⟨.inr ⟨HF.out, rfl⟩, hbr⟩
            · rw [decide_eq_false h3] at hlk
              have HST2 : Hid (msK sg Y nm (k + 1) = ⟨nx + 1, upd (upd M k x) x k, T ++ [x], true⟩) := Lib.hid (by rw [HST.out, ho2, if_neg (fun q => q.elim (fun q => absurd q (by omega)) (fun q => q.elim (fun q => by cases q) h3))])
              have HOW := Lib.hid hown
              have HDS := Lib.hid hDS
              have hw : (Lit.int .i64 (x : Int)).wf = true := WalkArith.wf_i64 (by omega)
              have HW := Lib.hid hw
              have hlt0 := hown.lt
              clear h3 ho2 hown hDS hw HST
              go_wp2_with (first
                | (at_mapUpdate; refine wpList_mapUpdate_own _ rfl _ _ _ 101 rfl 3 4 lawI Tryd.underlying101 _ (w.heap.size + 1) _ _ rfl HOW.out (by unfold maxLen; omega) _ _ _ rfl rfl (keyOf_int_mk Tryd.underlying3 HW.out) _ [] (plainElem_bool Tryd.underlying4 true) ?_; intro w2 hown2 hg2; have har2 := HAR.out.grown hg2 (by simp); have hsz2 := hg2.size; have HA2 := Lib.hid har2; have k1 := har2.cell k hlt; have f1 := har2.frozen k; have har3 := har2.seti k x; have k2 := har3.cell x hxm; have f2 := har3.frozen x; clear har2 har3)
                | (go_at_call 51; ((with_reducible refine CO2.out.mono ?_); rintro e w4 ⟨rfl, rfl⟩))
                | (go_at_call 51; ((with_reducible refine CO.out.mono ?_); rintro e w4 ⟨rfl, rfl⟩)))
              have hb3 : Below w.heap.size w w2 := hbr.grown hg2 (by omega) (fun q hq => by injection hq with hq; omega)
              have hd2 := HDS.out.put (HOW.out.tidy lawI) x
              have hne : w.heap.size + 1 ≠ w.heap.size := by omega
              have HSW : Hid (SeenJ ((w2.setCell ⟨w.heap.size, k, none⟩ (.int .i64 (x : Nat))).setCell ⟨w.heap.size, x, none⟩ (.int .i64 (k : Nat))) (w.heap.size + 1) (T ++ [x])) := Lib.hid ⟨_, by
                rw [List.length_append]
                exact (hown2.setCell (a := ⟨w.heap.size, k, none⟩) hne _).setCell (a := ⟨w.heap.size, x, none⟩) hne _, hd2⟩
              clear hown2 hg2 hlk hd2
              go_roundw
              case rel => exact ⟨k + 1, by omega, by go_num, by rw [HST2.out], by rw [HST2.out]; go_num, below_set (below_set hb3 (Nat.le_refl _) _) (Nat.le_refl _) _, by rw [HST2.out]; exact (HA2.out.seti k x).seti x k, by rw [HST2.out]; exact HSW.out⟩
              case measure => simp [intOf]; omega
        · have x1 : (nm : Int) ≤ (x : Int) := by omega
          have HF : Hid ((msK sg Y nm nm).ok = false) := Lib.hid (HBAD.out (k + 1) (by omega) (by rw [HST.out, if_pos (.inl (by omega))]))
          go_wp2_with ((go_at_call 51; ((with_reducible refine CO.out.mono ?_); rintro e w4 ⟨rfl, rfl⟩)))
          go_ret2
          exact ⟨.inr ⟨HF.out, rfl⟩, hbr⟩
    · obtain rfl : k = nm := by omega
      have HOK := Lib.hid hok
      have HRI : Hid (RI wr (some ⟨w.heap.size, 0, none⟩) k (lnM k (msK sg Y k k).M)) := Lib.hid ⟨lnM_len _ _, fun _ => ⟨_, 0, rfl, har.lt, fun j hj => by
        rw [Nat.zero_add, har.cell j hj]; simp [lnM, List.getD, hj]⟩⟩
      clear har hse hok
      go_wp2
      go_ret2
      exact ⟨.inl ⟨HOK.out, rfl, HRI.out⟩, hbr⟩

end Go.Proofs.YtebliaclleplgaaDoor

/- Walk of the reference: Bytes. -/
namespace Go.Proofs.YtebliaclleplgaaDoor
open Go.ChangeShapes Go.WideShapes Go.ChangeAt Go.RowKit Go.Joins

def btP (s : List Int) (n b : Nat) : List Int := (List.range b).map fun i => (btK s n i : Int)
theorem btP_succ (s : List Int) (n b : Nat) : btP s n (b + 1) = btP s n b ++ [(btK s n b : Int)] := by unfold btP; rw [List.range_succ, List.map_append]; rfl
theorem btP_len (s : List Int) (n b : Nat) : (btP s n b).length = b := by simp [btP]
theorem btK_zero (s : List Int) (b : Nat) : btK s (8 * b) b = 0 := by
  have h := (btK_inv s (8 * b)).2.1
  rw [show 8 * b / 8 = b by omega, show 8 * b % 8 = 0 by omega] at h
  have h2 : btK s (8 * b) b < 1 := h
  omega
theorem btK_next (s : List Int) (b j : Nat) (hj : j < 8) : btK s (8 * b + (j + 1)) b = if s.getD (8 * b + j) 0 = 1 then btK s (8 * b + j) b + 2 ^ j else btK s (8 * b + j) b := by
  show (if s.getD (8 * b + j) 0 = 1 then upd (btK s (8 * b + j)) ((8 * b + j) / 8) (btK s (8 * b + j) ((8 * b + j) / 8) + 2 ^ ((8 * b + j) % 8)) else btK s (8 * b + j)) b = _
  rw [show (8 * b + j) / 8 = b by omega, show (8 * b + j) % 8 = j by omega]
  split
  · rw [upd_same]
  · rfl
theorem btK_end (s : List Int) (n b j : Nat) (h : 8 * b + j ≤ n) (he : j = 8 ∨ 8 * b + j = n) : btK s (8 * b + j) b = btK s n b := by
  rcases he with e | e
  · subst e
    have := btK_full s b (8 * b + 8) (n - (8 * b + 8)) (Nat.le_refl _)
    rw [show 8 * b + 8 + (n - (8 * b + 8)) = n by omega] at this
    exact this.symm
  · rw [e]

set_option maxHeartbeats 6400000 in
set_option maxRecDepth 100000 in
theorem rbytes_any (A B : Option Addr) (ns cs nm cm : Nat) (lp : Int) (s m : List Int) (w : World) (h : DV w A ns B nm s m) (hv : validB s m lp = true) :
    Calls Tryd.prog 20 #[dval A ns cs B nm cm lp] w fun e w' => ∃ A' c, e = .returned (.slice A' (enL s (matesOf m) lp nm).length c) ∧ RB w' A' (enL s (matesOf m) lp nm).length (enL s (matesOf m) lp nm) ∧ Below w.heap.size w w' := by
  have F := bk_facts hv
  have hls := h.hs.1
  have hlm := h.hm.1
  have hl4 := F.lm
  have h64 := F.le
  obtain ⟨_, _, l3, l4⟩ := limB_out F.lim
  have hmm : ∀ x, x < nm → m.getD x 0 = (matesOf m x : Int) ∧ matesOf m x < nm := matesOf_mates F.pr hlm
  have hns : ns ≤ 64 := by omega
  have hnm : nm ≤ 256 := by omega
  have e4 : nm = 4 * ns := by omega
  have hd := DB.new w A ns cs B nm cm lp
  have hb0 := below_alloc w (dbox A ns cs B nm cm lp)
  have HD0 := Lib.hid hd
  obtain ⟨lpn, rfl⟩ := Int.eq_ofNat_of_zero_le l3
  have hlpn : lpn ≤ 64 := by omega
  obtain ⟨pM, hpM⟩ : ∃ pM, matesOf m = pM := ⟨_, rfl⟩
  rw [hpM] at hmm ⊢
  have HMM := Lib.hid hmm
  have HE4 := Lib.hid e4
  obtain ⟨nb, hnb⟩ : ∃ nb, (ns + 7) / 8 = nb := ⟨_, rfl⟩
  have HE0 : Hid (enL s pM (lpn : Nat) 0 = [(ns : Int), (lpn : Nat)] ++ btP s ns nb) := Lib.hid (by
    have : mtL s pM 0 = [] := rfl
    unfold enL; rw [this, hls, ← hnb]; simp [btL, btP])
  have HNB := Lib.hid hnb
  have HEL : Hid (∀ k, k ≤ nm → (enL s pM (lpn : Nat) k).length ≤ 1000) := Lib.hid fun k hk => by have := enL_len s pM (lpn : Nat) k; omega
  have HES : Hid (∀ k, enL s pM (lpn : Nat) (k + 1) = if outB s k = true then enL s pM (lpn : Nat) k ++ [(pM k : Int)] else enL s pM (lpn : Nat) k) := Lib.hid (enL_succ s pM _)
  have w1n : IntKind.u8.wrap (ns : Int) = (ns : Int) := by rw [IntKind.wrap_u8']; omega
  have w1l : IntKind.u8.wrap (lpn : Int) = (lpn : Int) := by rw [IntKind.wrap_u8']; omega
  have HS0 := Lib.hid (h.hs.keep hb0)
  have HM0 := Lib.hid (h.hm.keep hb0)
  clear F hl4 h64 l3 l4 hls hlm h hv e4 hmm hpM hnb
  obtain ⟨d0, d1, d2, dlt⟩ := hd
  unfold dbox at *
  go_enter Tryd.func20, Tryd.ntmps20
  go_upto_region 1 with fail
  generalize w.alloc (.cells #[.slice A ns cs, .slice B nm cm, .int .i64 (lpn : Int)] 24) = w1 at *
  have hbB := below_alloc w1 (.cells #[.int .u8 (ns : Int), .int .u8 (lpn : Int)] 5)
  have HO0 : Hid (ownRow (w1.alloc (.cells #[.int .u8 (ns : Int), .int .u8 (lpn : Int)] 5)) w1.heap.size 5 (.slice (some ⟨w1.heap.size, 0, none⟩) 2 2) (bys ([(ns : Int), (lpn : Nat)] ++ btP s ns 0))) := Lib.hid (World.ownsRow_lit w1 #[.int .u8 (ns : Int), .int .u8 (lpn : Int)] 2 (Nat.le_refl _) (by simp [maxLen]) rfl)
  go_wp2
  generalize w1.alloc (.cells #[.int .u8 (ns : Int), .int .u8 (lpn : Int)] 5) = wB at *
  clear d0 d1 d2 dlt
  go_loopw [4, 5, 6, 7] (fun v i _ _ wr => ∃ b : Nat, b ≤ nb ∧ i = .int .i64 b ∧ Below w1.heap.size w1 wr ∧ ownRow wr w1.heap.size 5 v (bys ([(ns : Int), (lpn : Nat)] ++ btP s ns b))) (fun _ i _ _ _ => nb - (intOf i).toNat)
  case atStart => exact ⟨0, by omega, rfl, hbB, HO0.out⟩
  case round =>
    obtain ⟨b, hb, rfl, hbr, hor⟩ := hrel
    have hb00 : (0 : Int) ≤ (b : Int) := Int.natCast_nonneg _
    have hsr := hbr.size
    have HOR := Lib.hid hor
    clear hor
    obtain ⟨c8, hc8⟩ : ∃ c8, 8 * b = c8 := ⟨_, rfl⟩
    have HC8 := Lib.hid hc8
    have hnb9 : nb ≤ 8 := by have := HNB.out; omega
    have m1 : IntKind.i64.wrap (8 * (b : Int)) = (c8 : Int) := by rw [IntWalk.i64_in _ (by omega)]; omega
    obtain ⟨z0, z1, z2, zlt⟩ := HD0.out.keep hbr
    by_cases hlt : c8 < ns
    · have hbn : b < nb := by have := HNB.out; omega
      have hlt1 : (c8 : Int) < (ns : Int) := by omega
      have HX0 : Hid (btK s (c8 + 0) b = 0) := Lib.hid (by rw [← HC8.out]; exact btK_zero s b)
      obtain ⟨wO, hwO⟩ : ∃ wO : World, wO = wr := ⟨_, rfl⟩
      subst hwO
      clear hc8
      go_wp2
      go_loopw [6, 7] (fun x j wr => wr = wO ∧ ∃ q : Nat, q ≤ 8 ∧ c8 + q ≤ ns ∧ j = .int .i64 q ∧ x = .int .i64 (btK s (c8 + q) b : Nat)) (fun _ j _ => 8 - (intOf j).toNat)
      case atStart => exact ⟨rfl, 0, by omega, by omega, rfl, by rw [HX0.out]; rfl⟩
      case round =>
        obtain ⟨hw, q, hq8, hqn, rfl, rfl⟩ := hrel
        subst hw
        have hq0 : (0 : Int) ≤ (q : Int) := Int.natCast_nonneg _
        have hx := (btK_inv s (c8 + q)).2.2 b
        have hnext := btK_next s b q
        rw [HC8.out] at hnext
        obtain ⟨x, hxx⟩ : ∃ x, btK s (c8 + q) b = x := ⟨_, rfl⟩
        have hend := btK_end s ns b q
        rw [HC8.out, hxx] at hend
        rw [hxx] at hnext hx
        simp only [hxx]
        obtain ⟨p, hp⟩ : ∃ p, c8 + q = p := ⟨_, rfl⟩
        have m2 : IntKind.i64.wrap ((c8 : Int) + (q : Int)) = (p : Int) := by rw [IntWalk.i64_in _ (by omega)]; omega
        have HP := Lib.hid hp
        have x0 : (0 : Int) ≤ (x : Int) := Int.natCast_nonneg _
        by_cases hin : q < 8 ∧ p < ns
        · obtain ⟨hin1, hin2⟩ := hin
          have i1 : (q : Int) < 8 := by omega
          have i2 : (p : Int) < (ns : Int) := by omega
          have p0 : (0 : Int) ≤ (p : Int) := Int.natCast_nonneg _
          obtain ⟨bA, oA, rfl, hbA, hcA⟩ := (HS0.out.keep hbr).2 (by omega)
          have cA := hcA p hin2
          have hn2 := hnext hin1
          rw [hp] at hn2
          by_cases h1 : s.getD p 0 = 1
          · rw [if_pos h1] at hn2
            rw [h1] at cA
            have hpw : 2 ^ q ≤ 128 := Nat.le_trans (Nat.pow_le_pow_right (by decide) (by omega : q ≤ 7)) (by decide)
            obtain ⟨y, hy⟩ : ∃ y, 2 ^ q = y := ⟨_, rfl⟩
            rw [hy] at hn2
            have e3 : ((2 : Int) ^ q) = (y : Int) := by rw [← hy]; norm_cast
            have e4 : IntKind.i64.wrap (y : Int) = (y : Int) := IntWalk.i64_in _ (by omega)
            have HN2 := Lib.hid hn2
            have hxy : x + y < 1000 := by omega
            have y0 : (0 : Int) ≤ (y : Int) := Int.natCast_nonneg _
            clear hcA hn2 hnext hend hp hxx hx h1 hy
            go_wp2
            go_roundw
            case rel => exact ⟨trivial, q + 1, by omega, by have := HP.out; omega, by go_num, by rw [HN2.out]; go_num⟩
            case measure => simp [intOf]; omega
          · rw [if_neg h1] at hn2
            have h1' : (s.getD p 0 == 1) = false := by simpa using h1
            obtain ⟨sg, hsg⟩ : ∃ sg, s.getD p 0 = sg := ⟨_, rfl⟩
            rw [hsg] at cA h1'
            have HN2 := Lib.hid hn2
            clear hcA hn2 hnext hend hp hxx h1 hsg
            go_wp2
            go_roundw
            case rel => exact ⟨trivial, q + 1, by omega, by have := HP.out; omega, by go_num, by rw [HN2.out]⟩
            case measure => simp [intOf]; omega
        · have hxe := hend (by omega) (by omega)
          have hbs := btP_succ s ns b
          rw [← hxe] at hbs
          have HBS := Lib.hid hbs
          have hxw : IntKind.u8.wrap (x : Int) = (x : Int) := by rw [IntKind.wrap_u8']; omega
          have hxl := btP_len s ns b
          obtain ⟨cur, hcur⟩ : ∃ cur, [(ns : Int), (lpn : Nat)] ++ btP s ns b = cur := ⟨_, rfl⟩
          have hcl : cur.length ≤ 100 := by rw [← hcur]; simp [hxl]; omega
          have HCUR := Lib.hid hcur
          have HOC : Hid (ownRow _ w1.heap.size 5 _ (bys cur)) := Lib.hid (hcur ▸ HOR.out)
          have hor2 : (q < 8 ∧ ¬ p < ns) ∨ ¬ q < 8 := by omega
          clear hend hnext hxe hbs hxx hp hcur hin hxl
          rcases hor2 with ⟨g1, g2⟩ | g1
          · have i1 : (q : Int) < 8 := by omega
            have i2 : ¬ (p : Int) < (ns : Int) := by omega
            clear g1 g2
            go_wp2_with (at_builtin; refine wpList_append_row1 rfl (.tmp 49) (.tmp 52) 39 5 (.int .u8 0) 1 rfl Tryd.underlying39 Tryd.infoByteP rfl (by omega) w1.heap.size _ (bys cur) rfl (World.ownsRow.alloc HOC.out _) _ (.int .u8 (x : Nat)) rfl (by rw [World.cell?_alloc_at _ _ _ _ rfl]; rfl) rfl (by simp; omega) (by simp; omega) ?_; intro A5 c5 w5 hrow5 hg5)
            have hb5 : Below w1.heap.size w1 w5 := ((hbr.alloc hsr _).grown hg5 (by simp; omega) (fun k hk => (World.ownsRow.lt HOC.out k hk).1))
            have HR5 : Hid (ownRow w5 w1.heap.size 5 (.slice A5 (cur.length + 1) c5) (bys ([(ns : Int), (lpn : Nat)] ++ btP s ns (b + 1)))) := Lib.hid (by
              rw [HBS.out, ← List.append_assoc, HCUR.out]
              have e1 : bys (cur ++ [(x : Int)]) = bys cur ++ [.int .u8 (x : Nat)] := by simp
              rw [e1]; rw [List.length_map] at hrow5; exact hrow5)
            clear hrow5 hg5
            go_roundw
            case rel => exact ⟨b + 1, by omega, by go_num, hb5, HR5.out⟩
            case measure => simp [intOf]; omega
          · have i1 : ¬ (q : Int) < 8 := by omega
            clear g1
            go_wp2_with (at_builtin; refine wpList_append_row1 rfl (.tmp 49) (.tmp 52) 39 5 (.int .u8 0) 1 rfl Tryd.underlying39 Tryd.infoByteP rfl (by omega) w1.heap.size _ (bys cur) rfl (World.ownsRow.alloc HOC.out _) _ (.int .u8 (x : Nat)) rfl (by rw [World.cell?_alloc_at _ _ _ _ rfl]; rfl) rfl (by simp; omega) (by simp; omega) ?_; intro A5 c5 w5 hrow5 hg5)
            have hb5 : Below w1.heap.size w1 w5 := ((hbr.alloc hsr _).grown hg5 (by simp; omega) (fun k hk => (World.ownsRow.lt HOC.out k hk).1))
            have HR5 : Hid (ownRow w5 w1.heap.size 5 (.slice A5 (cur.length + 1) c5) (bys ([(ns : Int), (lpn : Nat)] ++ btP s ns (b + 1)))) := Lib.hid (by
              rw [HBS.out, ← List.append_assoc, HCUR.out]
              have e1 : bys (cur ++ [(x : Int)]) = bys cur ++ [.int .u8 (x : Nat)] := by simp
              rw [e1]; rw [List.length_map] at hrow5; exact hrow5)
            clear hrow5 hg5
            go_roundw
            case rel => exact ⟨b + 1, by omega, by go_num, hb5, HR5.out⟩
            case measure => simp [intOf]; omega
    · have hlt1 : ¬ (c8 : Int) < (ns : Int) := by omega
      obtain rfl : b = nb := by have := HNB.out; omega
      have HO3 : Hid (ownRow wr w1.heap.size 5 _ (bys (enL s pM (lpn : Nat) 0))) := Lib.hid (by rw [HE0.out]; exact HOR.out)
      obtain ⟨wO, hwO⟩ : ∃ wO : World, wO = wr := ⟨_, rfl⟩
      subst hwO
      have m4 : IntKind.i64.wrap (4 * (ns : Int)) = (nm : Int) := by rw [IntWalk.i64_in _ (by omega), HE4.out]; omega
      clear HOR hc8 z0 z1 z2 zlt
      go_wp2
      go_loopw [4, 8] (fun v i wr => ∃ k : Nat, k ≤ nm ∧ i = .int .i64 k ∧ Below w1.heap.size w1 wr ∧ ownRow wr w1.heap.size 5 v (bys (enL s pM (lpn : Nat) k))) (fun _ i _ => nm - (intOf i).toNat)
      case atStart => exact ⟨0, by omega, rfl, hbr, HO3.out⟩
      case round =>
        obtain ⟨k, hk, rfl, hbk, hor⟩ := hrel
        have hk0 : (0 : Int) ≤ (k : Int) := Int.natCast_nonneg _
        have hsk := hbk.size
        have HOR := Lib.hid hor
        clear hor
        by_cases hkl : k < nm
        · obtain ⟨bB, oB, rfl, hbB', hcB⟩ := (HM0.out.keep hbk).2 (by omega)
          have hmk := HMM.out k hkl
          have c0 := hcB k hkl
          rw [hmk.1] at c0
          obtain ⟨x, hx⟩ : ∃ x, pM k = x := ⟨_, rfl⟩
          rw [hx] at c0 hmk
          have hxn := hmk.2
          have hxw : IntKind.u8.wrap (x : Int) = (x : Int) := by rw [IntKind.wrap_u8']; omega
          have hstep := HES.out k
          rw [hx] at hstep
          have hel := HEL.out k hk
          obtain ⟨q0, q1, q2, qlt⟩ := HD0.out.keep hbk
          have CO := Lib.hid (rout_any A ns cs s k wr (HS0.out.keep hbk) (by have := HE4.out; omega) (by omega))
          have hk1 : (k : Int) < (nm : Int) := by omega
          obtain ⟨cur, hcur⟩ : ∃ cur, enL s pM (lpn : Nat) k = cur := ⟨_, rfl⟩
          rw [hcur] at hstep hel
          have HOC : Hid (ownRow wr w1.heap.size 5 _ (bys cur)) := Lib.hid (hcur ▸ HOR.out)
          have HST := Lib.hid hstep
          clear hcB hmk hx hstep hcur
          cases ho : outB s k with
          | true =>
            rw [ho] at CO HST
            rw [if_pos rfl] at HST
            clear ho
            go_wp2_with (first
              | (at_builtin; refine wpList_append_row1 rfl (.tmp 64) (.tmp 71) 39 5 (.int .u8 0) 1 rfl Tryd.underlying39 Tryd.infoByteP rfl (by omega) w1.heap.size _ (bys cur) rfl (World.ownsRow.alloc HOC.out _) wr.heap.size (.int .u8 (x : Nat)) rfl (by rw [World.cell?_alloc_at _ _ _ _ rfl]; rfl) rfl (by simp; omega) (by simp; omega) ?_; intro A5 c5 w5 hrow5 hg5)
              | (go_at_call 30; ((with_reducible refine CO.out.mono ?_); rintro e w4 ⟨rfl, rfl⟩)))
            have hb5 : Below w1.heap.size w1 w5 := ((hbk.alloc hsk _).grown hg5 (by simp; omega) (fun k hk => (World.ownsRow.lt HOC.out k hk).1))
            have HR5 : Hid (ownRow w5 w1.heap.size 5 (.slice A5 (cur.length + 1) c5) (bys (enL s pM (lpn : Nat) (k + 1)))) := Lib.hid (by
              rw [HST.out]
              have e1 : bys (cur ++ [(x : Int)]) = bys cur ++ [.int .u8 (x : Nat)] := by simp
              rw [e1]; rw [List.length_map] at hrow5; exact hrow5)
            clear hrow5 hg5
            go_roundw
            case rel => exact ⟨k + 1, by omega, by go_num, hb5, HR5.out⟩
            case measure => simp [intOf]; omega
          | false =>
            rw [ho] at CO HST
            rw [if_neg (by decide)] at HST
            clear ho
            go_wp2_with ((go_at_call 30; ((with_reducible refine CO.out.mono ?_); rintro e w4 ⟨rfl, rfl⟩)))
            go_roundw
            case rel => exact ⟨k + 1, by omega, by go_num, hbk, by rw [HST.out]; exact HOC.out⟩
            case measure => simp [intOf]; omega
        · obtain rfl : nm = k := by omega
          have hown := HOR.out
          obtain ⟨A7, n7, c7, rfl⟩ : ∃ A n c, u4 = .slice A n c := by
            rcases id hown.2 with ⟨h1, _⟩ | ⟨g, cap, cur, h1, _⟩
            · exact ⟨_, _, _, h1⟩
            · exact ⟨_, _, _, h1⟩
          obtain ⟨hrb, rfl⟩ := rb_own hown
          have HRB := Lib.hid hrb
          have HBF : Hid (Below w.heap.size w wr) := Lib.hid (hb0.trans (hbk.mono hb0.size))
          clear hrb hown
          go_wp2
          go_ret
          exact ⟨_, _, rfl, HRB.out, HBF.out⟩

end Go.Proofs.YtebliaclleplgaaDoor

/- Walk: Format of a valid diagram. -/
namespace Go.Proofs.YtebliaclleplgaaDoor
open Go.ChangeShapes Go.WideShapes Go.ChangeAt Go.RowKit Go.Joins

theorem Tryd.gPow : Tryd.prog.globalNamed "internal/strconv.uint64pow10" = some 1 := by kernel_rfl
/-- The world holds the table that Itoa reads. -/
def PW (w : World) : Prop := Lib.TabIs Tryd.prog w "internal/strconv.uint64pow10" .u64 Lib.pow10Tab
theorem PW.keep {w w' : World} (h : PW w) (hb : Below w.heap.size w w') : PW w' := tab_stays Tryd.gPow h hb (Nat.le_refl _)
theorem itoa_nat (c : Nat) (hc : c ≤ 1000000) (w : World) (hD : PW w) :
    Calls Tryd.prog 18 #[.int .i64 (c : Nat)] w fun e w' => ∃ b : ByteArray, e = .returned (.string b) ∧ b.data.toList = Lib.decDigits c ∧ Below w.heap.size w w' := by
  refine (Tryd.strconv_Itoa (c : Nat) (by omega) (by omega) w hD).mono ?_
  rintro e w' ⟨rfl, k, os, hw⟩
  exact ⟨_, rfl, by rw [Lib.itoa_nonneg], by rw [hw]; exact Lib.below_grow _ w (Nat.le_refl _) k os⟩
theorem pn_data_cat (a b : ByteArray) : (a ++ b).data.toList = a.data.toList ++ b.data.toList := by simp [ByteArray.data_append]
theorem pn_size_of {b : ByteArray} {l : List UInt8} (h : b.data.toList = l) : b.size = l.length := by rw [← h]; exact Array.length_toList.symm
theorem Bld.keepB {w w' : World} {B b : Nat} {l : List UInt8} (h : Bld w B b l) (hb : Below w.heap.size w w') : Bld w' B b l := by
  have key : ∀ p, Lib.BuilderAtF 52 5 B b p (Lib.byteCells l) w → Lib.BuilderAtF 52 5 B b p (Lib.byteCells l) w' := fun p hp => by
    obtain ⟨hB, v, hbk, hown, hne⟩ := hp
    exact ⟨hB, v, (hb.block b (heap_lt hbk)).trans hbk, hown.kept (grown_of_below hb) (by cases e : v.ownBlock <;> simp), hne⟩
  exact h.imp (key _) (key _)
theorem writeStr (B b : Nat) (l m : List UInt8) (s : ByteArray) (hs : s.data.toList = m) (w : World) (h : Bld w B b l) (hlen : l.length ≤ 1000000) (hlm : m.length ≤ 1000000) (hBw : B ≤ w.heap.size) :
    Calls Tryd.prog 26 #[.pointer (some ⟨b, 0, none⟩), .string s] w fun e w' => (∃ k : Nat, e = .returned (.tuple #[.int .i64 k, .nilIface])) ∧ Bld w' B b (l ++ m) ∧ Below B w w' := by
  have := writeString_any B b l m w h (by omega) (by omega) hBw
  rw [show (⟨m.toArray⟩ : ByteArray) = s by rw [← hs]] at this
  refine this.mono ?_
  rintro e w' ⟨h1, h2, h3, _⟩
  exact ⟨h1, h2, h3⟩
theorem signText_any (x : Int) (w : World) : Calls Tryd.prog 27 #[.int .i64 x] w fun e w' => ∃ b : ByteArray, e = .returned (.string b) ∧ b.data.toList = sgT x ∧ w = w' := by
  by_cases hx : x = 1
  · subst hx
    go_enter Tryd.func27, Tryd.ntmps27
    go_wp2
    go_ret
    exact ⟨_, rfl, rfl, rfl⟩
  · have hx' : (x == 1) = false := by simpa using hx
    have HX : Hid ((⟨#[45]⟩ : ByteArray).data.toList = sgT x) := Lib.hid (by unfold sgT; rw [if_neg hx])
    go_enter Tryd.func27, Tryd.ntmps27
    go_wp2
    go_ret
    exact ⟨_, rfl, HX.out, rfl⟩

set_option maxHeartbeats 6400000 in
set_option maxRecDepth 100000 in
theorem format_yes (A B : Option Addr) (ns cs nm cm : Nat) (lp : Int) (s m : List Int) (w : World) (h : DV w A ns B nm s m) (hv : validB s m lp = true) (hP : PW w) :
    Calls Tryd.prog 10 #[dval A ns cs B nm cm lp] w fun e w' => ∃ b : ByteArray, e = .returned (.tuple #[.string b, .int .i64 0]) ∧ b.data.toList = pnT s (lbM s m lp) lp ∧ Below w.heap.size w w' := by
  have F := bk_facts hv
  have hls := h.hs.1
  have hlm := h.hm.1
  have hl4 := F.lm
  have h64 := F.le
  obtain ⟨_, _, l3, l4⟩ := limB_out F.lim
  have hsl := seq_len hv
  have hL1000 : ∀ j, lbM s m lp j < 1000 := fun j => by
    have := lbK_le (matesOf m) (seqM s m lp) (seqM s m lp).length j
    unfold lbM; omega
  have e4 : nm = 4 * ns := by omega
  have hd := DB.new w A ns cs B nm cm lp
  have hb0 := below_alloc w (dbox A ns cs B nm cm lp)
  have HD0 := Lib.hid hd
  have HDV := Lib.hid (h.keep hb0)
  have CV : ∀ W, DV W A ns B nm s m → Hid (Calls Tryd.prog 13 #[dval A ns cs B nm cm lp] W fun e w' => e = .returned (.bool true) ∧ Below W.heap.size W w') := fun W h => h.valid cs cm lp true hv
  have CL : ∀ W, DV W A ns B nm s m → Hid (Calls Tryd.prog 25 #[dval A ns cs B nm cm lp] W fun e w' => ∃ g, e = .returned (.slice (some ⟨g, 0, none⟩) nm nm) ∧ Arr w' g 3 nm (iv (lbM s m lp)) ∧ W.heap.size ≤ g ∧ Below W.heap.size W w') := fun W h => labels_any A B ns cs nm cm lp s m W h hv
  have HP := Lib.hid (PW.keep hP hb0)
  have HNM := Lib.hid e4
  have HS := Lib.hid h.hs
  obtain ⟨lpn, rfl⟩ := Int.eq_ofNat_of_zero_le l3
  have hlpn : lpn ≤ 64 := by omega
  obtain ⟨L, hL⟩ : ∃ L, lbM s m (lpn : Int) = L := ⟨_, rfl⟩
  simp only [hL] at CL hL1000 ⊢
  have HROWS : Hid (∀ k, (rowsT s L k).length ≤ 18 * k) := Lib.hid (rowsT_len s L hL1000)
  have HLB4 : Hid (∀ c k, (lb4 L c k).length ≤ 4 * k) := Lib.hid fun c k => lb4_len L c hL1000 k
  have HL := Lib.hid hL1000
  have hFIN : Hid (pnT s L (lpn : Nat) = rowsT s L ns ++ (lpT ++ Lib.decDigits lpn ++ [10])) := Lib.hid (by unfold pnT; rw [hls, Int.toNat_natCast])
  have hns : ns ≤ 64 := by omega
  clear F hl4 h64 l3 l4 hsl hlm h hv hL hP hL1000 e4 hls
  obtain ⟨d0, d1, d2, dlt⟩ := hd
  unfold dbox at *
  go_enter Tryd.func10, Tryd.ntmps10
  go_upto_region 5 with (first
    | (go_at_call 13; ((with_reducible refine (CV _ HDV.out).out.mono ?_); rintro e w1 ⟨rfl, hb1⟩; have HD1 := Lib.hid (HD0.out.keep hb1); obtain ⟨x0, x1, x2, xlt⟩ := HD1.out; have HDV1 := Lib.hid (HDV.out.keep hb1)))
    | (go_at_call 25; ((with_reducible refine (CL _ HDV1.out).out.mono ?_); rintro e w2 ⟨gL, rfl, har, hgL, hb2⟩; have HD2 := Lib.hid (HD1.out.keep hb2))))
  have hb12 := below_step hb1 hb2
  have hb02 := below_step hb0 hb12
  have hbT := below_alloc w2 (.cells #[.pointer none, .slice none 0 0] 52)
  have HB0 : Hid (Bld (w2.alloc (.cells #[.pointer none, .slice none 0 0] 52)) w2.heap.size w2.heap.size (rowsT s L 0)) := Lib.hid (Lib.IsBuilderF.of (Lib.fresh_isBuilder 52 5 w2))
  have HP2 := Lib.hid (PW.keep HP.out hb12)
  have HS2 := Lib.hid (HS.out.keep hb02)
  have HAR := Lib.hid har
  obtain ⟨p0, p1, p2, plt⟩ := HD2.out.keep hbT
  have HD2T := Lib.hid HD2.out
  clear har x0 x1 x2 xlt d0 d1 d2 dlt
  have hszT : (w2.alloc (.cells #[.pointer none, .slice none 0 0] 52)).heap.size = w2.heap.size + 1 := by simp
  generalize w2.alloc (.cells #[.pointer none, .slice none 0 0] 52) = wT at *
  go_wp2
  go_loopw [6, 7, 9, 18] (fun _ _ _ i wr => ∃ k : Nat, k ≤ ns ∧ i = .int .i64 k ∧ Below w2.heap.size w2 wr ∧ Bld wr w2.heap.size w2.heap.size (rowsT s L k)) (fun _ _ _ i _ => ns - (intOf i).toNat)
  case atStart => exact ⟨0, by omega, rfl, hbT, HB0.out⟩
  case round =>
    obtain ⟨k, hk, rfl, hbr, hbl⟩ := hrel
    have hk0 : (0 : Int) ≤ (k : Int) := Int.natCast_nonneg _
    have hsr := hbr.size
    have HBL := Lib.hid hbl
    clear hbl
    by_cases hlt : k < ns
    · obtain ⟨bA, oA, rfl, hbA, hcA⟩ := HS2.out.2 (by omega)
      have c0 := (hbr.cell (p := ⟨bA, oA + k, none⟩) hbA).trans (hcA k hlt)
      obtain ⟨sg, hsg⟩ : ∃ sg, s.getD k 0 = sg := ⟨_, rfl⟩
      rw [hsg] at c0
      have HSG := Lib.hid hsg
      have CT := fun W => Lib.hid (signText_any sg W)
      have hrl := HROWS.out k
      have hk1 : (k : Int) < (ns : Int) := by omega
      obtain ⟨T, hT⟩ : ∃ T, rowsT s L k = T := ⟨_, rfl⟩
      rw [hT] at hrl
      have HT := Lib.hid hT
      have HBL2 : Hid (Bld wr w2.heap.size w2.heap.size T) := Lib.hid (hT ▸ HBL.out)
      obtain ⟨c4, hc4⟩ : ∃ c4, 4 * k = c4 := ⟨_, rfl⟩
      have HC4 := Lib.hid hc4
      have m1 : IntKind.i64.wrap (4 * (k : Int)) = (c4 : Int) := by rw [IntWalk.i64_in _ (by omega)]; omega
      have m2 : IntKind.i64.wrap ((c4 : Int) + 4) = ((c4 + 4 : Nat) : Int) := by rw [IntWalk.i64_in _ (by omega)]; omega
      have m3 : c4 + 4 ≤ nm := by have := HNM.out; omega
      have m4 : (0 : Int) ≤ (c4 : Int) := Int.natCast_nonneg _
      have m5 : (c4 : Int) ≤ ((c4 + 4 : Nat) : Int) := by omega
      have m6 : ((c4 + 4 : Nat) : Int) ≤ (nm : Int) := by omega
      clear hcA hsg hT hc4
      obtain ⟨wO, hwO⟩ : ∃ wO : World, wO = wr := ⟨_, rfl⟩
      subst hwO
      go_upto_region 10 with (first
        | (go_at_call 27; ((with_reducible refine (CT _).out.mono ?_); rintro e w3 ⟨b3, rfl, hb3, rfl⟩; have HB3 := Lib.hid hb3; clear hb3))
        | (go_at_call 26; ((with_reducible refine (writeStr _ _ T (sgT sg) b3 HB3.out _ HBL2.out (by omega) (by simp [sgT]) hsr).mono ?_); rintro e w4 ⟨⟨kk, rfl⟩, hB4, hb4⟩)))
      rw [show c4 + 4 - c4 = 4 by omega]
      have hb24 : Below w2.heap.size w2 w4 := hbr.trans hb4
      go_loopw [9, 34] (fun _ j wr => ∃ q : Nat, q ≤ 4 ∧ j = .int .i64 q ∧ Below w2.heap.size w2 wr ∧ Bld wr w2.heap.size w2.heap.size (T ++ sgT sg ++ lb4 L k q)) (fun _ j _ => 4 - (intOf j).toNat)
      case atStart => exact ⟨0, by omega, rfl, hb24, by
        have : lb4 L k 0 = [] := rfl
        rw [this, List.append_nil]; exact hB4⟩
      case round =>
        obtain ⟨q, hq, rfl, hbq, hblq⟩ := hrel
        have hsq := hbq.size
        have hq0 : (0 : Int) ≤ (q : Int) := Int.natCast_nonneg _
        have hll := HLB4.out k q
        have hsgl : (sgT sg).length = 1 := rfl
        by_cases hq4 : q < 4
        · have hcL : wr.cell? ⟨gL, c4 + q, none⟩ = some (.int .i64 ((L (c4 + q) : Nat) : Int)) := (HAR.out.keep (hbq : Below w2.heap.size w2 wr)).cell (c4 + q) (by omega)
          have hL1 := HL.out (c4 + q)
          have hls := lb4_succ L k q
          rw [HC4.out] at hls
          obtain ⟨x, hx⟩ : ∃ x, L (c4 + q) = x := ⟨_, rfl⟩
          rw [hx] at hcL hL1 hls
          have HLS := Lib.hid hls
          have hdd := dec_three x (by omega)
          obtain ⟨U, hU⟩ : ∃ U, T ++ sgT sg ++ lb4 L k q = U := ⟨_, rfl⟩
          rw [hU] at hblq
          have hUl : U.length ≤ 2000 := by rw [← hU, List.length_append, List.length_append]; omega
          have HU := Lib.hid hU
          have HBQ := Lib.hid hblq
          have HPq := Lib.hid (PW.keep HP2.out hbq)
          have hq1 : (q : Int) < 4 := by omega
          clear hx hls hU hblq hll
          obtain ⟨wq, hwq⟩ : ∃ wq : World, wq = wr := ⟨_, rfl⟩
          subst hwq
          go_wp2_with (first
            | (go_at_call 28; ((with_reducible refine (writeByte_any _ _ U 32 32 rfl _ HBQ.out (by omega) hsq).mono ?_); rintro e w5 ⟨rfl, hB5, hb5, _⟩; have hs5 := hb5.size; have hP5 := Lib.hid (PW.keep HP2.out (hbq.trans hb5))))
            | (go_at_call 18; ((with_reducible refine (itoa_nat x (by omega) _ hP5.out).mono ?_); rintro e w6 ⟨b6, rfl, hb6t, hb6⟩; have HB6 := Lib.hid hb6t; clear hb6t; have hs6 := hb6.size; have hB6 := Lib.hid (Bld.keepB hB5 hb6)))
            | (go_at_call 26; ((with_reducible refine (writeStr _ _ (U ++ [32]) (Lib.decDigits x) b6 HB6.out _ hB6.out (by simp only [List.length_append, List.length_cons, List.length_nil]; omega) (by omega) (by omega)).mono ?_); rintro e w7 ⟨⟨kk7, rfl⟩, hB7, hb7⟩)))
          go_roundw
          case rel => exact ⟨q + 1, by omega, by go_num, ((hbq.trans hb5).trans (hb6.mono (by omega))).trans hb7, by
            rw [HLS.out, ← List.append_assoc, HU.out]
            have e : U ++ (32 :: Lib.decDigits x) = U ++ [32] ++ Lib.decDigits x := by simp
            rw [e]; exact hB7⟩
          case measure => simp [intOf]; omega
        · obtain rfl : q = 4 := by omega
          have hrs := rowsT_succ s L k
          rw [HT.out] at hrs
          unfold rowT at hrs
          rw [HSG.out] at hrs
          obtain ⟨U, hU⟩ : ∃ U, T ++ sgT sg ++ lb4 L k 4 = U := ⟨_, rfl⟩
          rw [hU] at hblq
          have hUl : U.length ≤ 2000 := by rw [← hU, List.length_append, List.length_append]; omega
          have HRS : Hid (rowsT s L (k + 1) = U ++ [10]) := Lib.hid (by rw [hrs, ← hU]; simp)
          have HBQ := Lib.hid hblq
          clear hrs hU hblq hll
          go_wp2_with ((go_at_call 28; ((with_reducible refine (writeByte_any _ _ U 10 10 rfl _ HBQ.out (by omega) hsq).mono ?_); rintro e w5 ⟨rfl, hB5, hb5, _⟩)))
          go_roundw
          case rel => exact ⟨k + 1, by omega, by go_num, hbq.trans hb5, by rw [HRS.out]; exact hB5⟩
          case measure => simp [intOf]; omega
    · obtain rfl : ns = k := by omega
      have hrl := HROWS.out ns
      have hP5 := Lib.hid (PW.keep HP2.out hbr)
      obtain ⟨q0, q1, q2, qlt⟩ := HD2T.out.below hbr HD2T.out.2.2.2
      have hdd := dec_three lpn (by omega)
      have HFIN := Lib.hid hFIN
      have HCAT : Hid (∀ b : ByteArray, b.data.toList = Lib.decDigits lpn → ((⟨#[108, 111, 111, 112, 115, 32]⟩ : ByteArray) ++ b ++ (⟨#[10]⟩ : ByteArray)).data.toList = lpT ++ Lib.decDigits lpn ++ [10]) := Lib.hid fun b hb => by rw [pn_data_cat, pn_data_cat, hb]; rfl
      have HZ : Hid (∀ b : ByteArray, b.data.toList = Lib.decDigits lpn → b.size ≤ 3) := Lib.hid fun b hb => by rw [pn_size_of hb]; exact hdd
      clear hFIN p0 p1 p2
      go_wp2_with (first
        | (go_at_call 18; ((with_reducible refine (itoa_nat lpn (by omega) _ hP5.out).mono ?_); rintro e w6 ⟨b6, rfl, hb6t, hb6⟩; have hz6 := HZ.out b6 hb6t; have HB6 := Lib.hid hb6t; clear hb6t; have hs6 := hb6.size; have hB6 := Lib.hid (Bld.keepB HBL.out hb6)))
        | (go_at_call 26; ((with_reducible refine (writeStr _ _ (rowsT s L ns) (lpT ++ Lib.decDigits lpn ++ [10]) _ (HCAT.out b6 HB6.out) _ hB6.out (by omega) (by simp only [lpT, List.length_append, List.length_cons, List.length_nil]; omega) (by omega)).mono ?_); rintro e w7 ⟨⟨kk7, rfl⟩, hB7, hb7⟩; have hs7 := hb7.size; have HB7 := Lib.hid hB7; clear hB7))
        | (go_at_call 29; ((with_reducible refine (Tryd.Builder_String_any_k _ _ _ _ HB7.out (by omega)).mono ?_); rintro e w8 ⟨rfl, _, hb8, _⟩)))
      go_ret2
      exact ⟨_, rfl, by rw [HFIN.out]; simp, (hb02.trans ((hbr.trans (hb6.mono hsr)).mono hb02.size)).trans ((hb7.trans hb8).mono hb02.size)⟩

end Go.Proofs.YtebliaclleplgaaDoor

/- Walk: awake of layer 3. -/
namespace Go.Proofs.YtebliaclleplgaaDoor
open Go.ChangeShapes Go.WideShapes Go.ChangeAt Go.RowKit Go.Joins

theorem pkk_strands : strandsM kkS kkM 0 = [[1, 2]] := by
  unfold strandsM; rw [if_pos kk_valid]; decide +kernel
theorem pkk_lab : lbM kkS kkM 0 0 = 1 ∧ lbM kkS kkM 0 1 = 1 ∧ lbM kkS kkM 0 2 = 2 ∧ lbM kkS kkM 0 3 = 2 := by
  unfold lbM seqM; rw [pkk_strands]; decide +kernel
def kkText : List UInt8 := [43, 32, 49, 32, 49, 32, 50, 32, 50, 10, 108, 111, 111, 112, 115, 32, 48, 10]
theorem pkk_text : pnT kkS (lbM kkS kkM 0) 0 = kkText := by
  obtain ⟨h0, h1, h2, h3⟩ := pkk_lab
  have d0 : Lib.decDigits 0 = [48] := by rw [Lib.decDigits_one (by decide)]; decide
  have d1 : Lib.decDigits 1 = [49] := by rw [Lib.decDigits_one (by decide)]; decide
  have d2 : Lib.decDigits 2 = [50] := by rw [Lib.decDigits_one (by decide)]; decide
  have e4 : lb4 (lbM kkS kkM 0) 0 4 = [32, 49, 32, 49, 32, 50, 32, 50] := by
    rw [lb4_succ, lb4_succ, lb4_succ, lb4_succ]
    show (((([] : List UInt8) ++ (32 :: Lib.decDigits (lbM kkS kkM 0 0))) ++ (32 :: Lib.decDigits (lbM kkS kkM 0 1))) ++ (32 :: Lib.decDigits (lbM kkS kkM 0 2))) ++ (32 :: Lib.decDigits (lbM kkS kkM 0 3)) = _
    rw [h0, h1, h2, h3, d1, d2]; rfl
  have er : rowsT kkS (lbM kkS kkM 0) 1 = [43, 32, 49, 32, 49, 32, 50, 32, 50, 10] := by
    rw [rowsT_succ]
    show ([] : List UInt8) ++ (sgT 1 ++ lb4 (lbM kkS kkM 0) 0 4 ++ [10]) = _
    rw [e4]; rfl
  show rowsT kkS (lbM kkS kkM 0) 1 ++ (lpT ++ Lib.decDigits 0 ++ [10]) = _
  rw [er, d0]; rfl
theorem pkk_enc : enL kkS (matesOf kkM) 0 4 = [1, 0, 1, 0, 3] := by decide +kernel
theorem RI.litP (w : World) (xs : List Int) : RI (w.alloc (.cells (ints xs).toArray 3)) (some ⟨w.heap.size, 0, none⟩) xs.length xs :=
  ⟨rfl, fun _ => ⟨w.heap.size, 0, rfl, by simp, fun j hj => by
    rw [World.cell?_alloc_at _ _ _ _ rfl, Nat.zero_add]
    simp [ints, List.getD, hj]⟩⟩
theorem kinkP_any (w : World) : Calls Tryd.prog 24 #[] w fun e w' => ∃ A B, e = .returned (dval A 1 1 B 4 4 0) ∧ DV w' A 1 B 4 kkS kkM ∧ Below w.heap.size w w' := by
  go_enter Tryd.func24, Tryd.ntmps24
  go_wp2
  refine bodyPost_ret (v := dval (some ⟨w.heap.size + 1, 0, none⟩) 1 1 (some ⟨w.heap.size + 1 + 1, 0, none⟩) 4 4 0) (by simp [results, Tryd.results24, go_sem]) rfl ⟨_, _, rfl, ⟨?_, ?_, by omega, by omega, ?_⟩, ?_⟩
  · have := (RI.litP (w.alloc (dbox (some ⟨w.heap.size + 1, 0, none⟩) 1 1 (some ⟨w.heap.size + 1 + 1, 0, none⟩) 4 4 0)) kkS).alloc (.cells (ints kkM).toArray 3)
    simpa [kkS, kkM, ints] using this
  · have := RI.litP ((w.alloc (dbox (some ⟨w.heap.size + 1, 0, none⟩) 1 1 (some ⟨w.heap.size + 1 + 1, 0, none⟩) 4 4 0)).alloc (.cells (ints kkS).toArray 3)) kkM
    simpa [kkS, kkM, ints] using this
  · exact (by decide : ∀ j, j < 4 → -9223372036854775808 ≤ mt kkM j ∧ mt kkM j ≤ 9223372036854775807)
  · exact below_step (below_step (below_alloc _ _) (below_alloc _ _)) (below_alloc _ _)
theorem rb_string {w : World} {A : Option Addr} {n c : Nat} {xs : List Int} (h : RB w A n xs) (hn : 0 < n) : (convert 39 9 (.slice A n c)).run Tryd.prog w = .ok (.string (strOfNums xs)) w := by
  obtain ⟨b, off, rfl, hb, hc⟩ := h.2 hn
  exact run_convert_bytes_arg (P := Tryd.prog) w 39 5 Tryd.underlying39 Tryd.underlying5 b off n c xs h.1 hc 9 Tryd.underlying9
theorem kk_format (A B : Option Addr) (W : World) (h : DV W A 1 B 4 kkS kkM) (hP : PW W) : Calls Tryd.prog 10 #[dval A 1 1 B 4 4 0] W fun e w' => e = .returned (.tuple #[.string ⟨kkText.toArray⟩, .int .i64 0]) ∧ Below W.heap.size W w' := by
  refine (format_yes A B 1 1 4 4 0 kkS kkM W h kk_valid hP).mono ?_
  rintro e w' ⟨b, rfl, hb, hw⟩
  rw [pkk_text] at hb
  exact ⟨by rw [← hb], hw⟩
theorem kk_encode (A B : Option Addr) (W : World) (h : DV W A 1 B 4 kkS kkM) : Calls Tryd.prog 19 #[dval A 1 1 B 4 4 0] W fun e w' => ∃ A' c, e = .returned (.tuple #[.slice A' 5 c, .int .i64 0]) ∧ RB w' A' 5 [1, 0, 1, 0, 3] ∧ Below W.heap.size W w' := by
  refine (encode_yes A B 1 1 4 4 0 kkS kkM W h kk_valid).mono ?_
  rintro e w' ⟨A', c, rfl, hb, hw⟩
  rw [pkk_enc] at hb ⊢
  exact ⟨A', c, rfl, hb, hw⟩

set_option maxHeartbeats 3200000 in
set_option maxRecDepth 100000 in
theorem pawake_any (w : World) (hP : PW w) : Calls Tryd.prog 9 #[] w fun e w' => e = .returned (.bool true) ∧ Below w.heap.size w w' := by
  have HP := Lib.hid hP
  have CK := fun W => Lib.hid (kinkP_any W)
  have hstr : strOfNums [1, 0, 1, 0, 3] = ⟨#[1, 0, 1, 0, 3]⟩ := by decide
  have HST := Lib.hid hstr
  have ht : kkText.toArray = #[43, 32, 49, 32, 49, 32, 50, 32, 50, 10, 108, 111, 111, 112, 115, 32, 48, 10] := rfl
  have CF : ∀ (W : World) (A B : Option Addr), DV W A 1 B 4 kkS kkM → PW W → Hid (Calls Tryd.prog 10 #[dval A 1 1 B 4 4 0] W fun e w' => e = .returned (.tuple #[.string ⟨#[43, 32, 49, 32, 49, 32, 50, 32, 50, 10, 108, 111, 111, 112, 115, 32, 48, 10]⟩, .int .i64 0]) ∧ Below W.heap.size W w') := fun W A B h hp => Lib.hid (by rw [← ht]; exact kk_format A B W h hp)
  have CE : ∀ (W : World) (A B : Option Addr), DV W A 1 B 4 kkS kkM → Hid (Calls Tryd.prog 19 #[dval A 1 1 B 4 4 0] W fun e w' => ∃ A' c, e = .returned (.tuple #[.slice A' 5 c, .int .i64 0]) ∧ RB w' A' 5 [1, 0, 1, 0, 3] ∧ Below W.heap.size W w') := fun W A B h => Lib.hid (kk_encode A B W h)
  clear hP hstr ht
  go_enter Tryd.func9, Tryd.ntmps9
  go_wp2_with (first
    | (go_at_call 19; ((with_reducible refine (CE _ _ _ dv3).out.mono ?_); rintro e w4 ⟨A4, c4, rfl, hr4, hb4⟩; obtain ⟨b4, o4, rfl, _⟩ := hr4.2 (by omega); have hcv := rb_string (c := c4) hr4 (by omega); rw [HST.out] at hcv))
    | (go_at_call 24; ((with_reducible refine (CK w2).out.mono ?_); rintro e w3 ⟨A3, B3, rfl, dv3, hb3⟩))
    | (go_at_call 10; ((with_reducible refine (CF _ _ _ dv1 (PW.keep HP.out hb1)).out.mono ?_); rintro e w2 ⟨rfl, hb2⟩))
    | (go_at_call 24; ((with_reducible refine (CK w).out.mono ?_); rintro e w1 ⟨A1, B1, rfl, dv1, hb1⟩)))
  go_ret
  exact ⟨rfl, below_step (below_step (below_step hb1 hb2) hb3) hb4⟩

end Go.Proofs.YtebliaclleplgaaDoor
