import Derived.Test.YtebliaclleplgaaA02
import Derived.Test.YtebliaclleplgaaA06
import Derived.Test.YtebliaclleplgaaA05
import Derived.Test.YtebliaclleplgaaA03
/- Walk: isomorphic. -/
namespace Go.Proofs.Ytebliaclleplgaa
open Go.RowKit

abbrev gz (s : List Int) : Nat → Int := fun i => s.getD i 0
theorem iso0_set {w : World} {g n c : Nat} {t : TypeId} (h : Arr w g t n (zv fun _ => -1)) : Arr (w.setCell ⟨g, 0, none⟩ (.int .i64 (c : Nat))) g t n (zv (iso0 c).img) := by
  refine (h.set 0 (.int .i64 (c : Nat))).congr fun i _ => ?_
  unfold iso0 zv
  by_cases e : i = 0 <;> simp [e]

set_option maxHeartbeats 6400000 in
set_option maxRecDepth 100000 in
theorem iso_any (A B A' B' : Option Addr) (n cs nm cm cs' cm' : Nat) (lp : Int) (sA mA sB mB : List Int) (pA pB : Nat → Nat) (w : World) (h1 : RI w A n sA) (h2 : RI w B nm mA) (h3 : RI w A' n sB) (h4 : RI w B' nm mB) (hnm : nm = 4 * n) (hn0 : 0 < n) (hn : n ≤ 64)
    (hA : ∀ h, h < nm → mA.getD h 0 = (pA h : Int) ∧ pA h < nm) (hB : ∀ h, h < nm → mB.getD h 0 = (pB h : Int) ∧ pB h < nm) :
    Calls Try.prog 11 #[dval A n cs B nm cm lp, dval A' n cs' B' nm cm' lp] w fun e w' => e = .returned (.bool (isoM pA pB (gz sA) (gz sB) n)) ∧ Below w.heap.size w w' := by
  have hba := below_alloc w (dbox A n cs B nm cm lp)
  have hbb := below_alloc (w.alloc (dbox A n cs B nm cm lp)) (dbox A' n cs' B' nm cm' lp)
  have hb0 := below_step hba hbb
  have hd := (DB.new w A n cs B nm cm lp).keep hbb
  have hd' := DB.new (w.alloc (dbox A n cs B nm cm lp)) A' n cs' B' nm cm' lp
  have hsz : (w.alloc (dbox A n cs B nm cm lp)).heap.size = w.heap.size + 1 := by simp
  rw [hsz] at hd'
  obtain ⟨bA, oA, rfl, hbA, hcA⟩ := h1.2 hn0
  obtain ⟨bM, oM, rfl, hbM, hcM⟩ := h2.2 (by omega)
  obtain ⟨bA', oA', rfl, hbA', hcA'⟩ := h3.2 hn0
  obtain ⟨bM', oM', rfl, hbM', hcM'⟩ := h4.2 (by omega)
  have hsl : w.heap.size ≤ ((w.alloc (dbox (some ⟨bA, oA, none⟩) n cs (some ⟨bM, oM, none⟩) nm cm lp)).alloc (dbox (some ⟨bA', oA', none⟩) n cs' (some ⟨bM', oM', none⟩) nm cm' lp)).heap.size := hb0.size
  have HMA : Hid (∀ h, h < nm → bM < w.heap.size ∧ w.cell? ⟨bM, oM + h, none⟩ = some (.int .i64 (pA h : Int)) ∧ pA h < nm) := Lib.hid fun h hh => ⟨hbM, by rw [hcM h hh, (hA h hh).1], (hA h hh).2⟩
  have HMB : Hid (∀ h, h < nm → bM' < w.heap.size ∧ w.cell? ⟨bM', oM' + h, none⟩ = some (.int .i64 (pB h : Int)) ∧ pB h < nm) := Lib.hid fun h hh => ⟨hbM', by rw [hcM' h hh, (hB h hh).1], (hB h hh).2⟩
  have HSA : Hid (∀ i, i < n → bA < w.heap.size ∧ w.cell? ⟨bA, oA + i, none⟩ = some (.int .i64 (gz sA i))) := Lib.hid fun i hi => ⟨hbA, hcA i hi⟩
  have HSB : Hid (∀ i, i < n → bA' < w.heap.size ∧ w.cell? ⟨bA', oA' + i, none⟩ = some (.int .i64 (gz sB i))) := Lib.hid fun i hi => ⟨hbA', hcA' i hi⟩
  have HPA : Hid (∀ h, h < 4 * n → pA h < 4 * n) := Lib.hid fun h hh => by have := (hA h (by omega)).2; omega
  have HPB : Hid (∀ h, h < 4 * n → pB h < 4 * n) := Lib.hid fun h hh => by have := (hB h (by omega)).2; omega
  have hmk : ∀ W, (Instr.makeSlice 22 (.int .i64 (n : Int)) (.int .i64 (n : Int))).run Try.prog W = .ok (.slice (some ⟨W.heap.size, 0, none⟩) n n) (W.alloc (.cells (cellsN n fun _ => .int .i64 0) 3)) := fun W =>
    make_one (P := Try.prog) Try.underlying22 Try.infoInt rfl n (by omega) (by omega) W
  have HNM := Lib.hid hnm
  have hni : (n : Int) ≤ 64 := by omega
  have hni0 : (0 : Int) < (n : Int) := by omega
  have hne0 : ((n : Int) == 0) = false := beq_eq_false_iff_ne.2 (by omega)
  clear h1 h2 h3 h4 hcA hcM hcA' hcM' hA hB hnm hsz hba hbb
  unfold dbox at hb0 hd hd' hsl
  go_enter Try.func11, Try.ntmps11
  generalize hw0 : (w.alloc (.cells #[.slice (some ⟨bA, oA, none⟩) n cs, .slice (some ⟨bM, oM, none⟩) nm cm, .int .i64 lp] 24)).alloc (.cells #[.slice (some ⟨bA', oA', none⟩) n cs', .slice (some ⟨bM', oM', none⟩) nm cm', .int .i64 lp] 24) = w0 at *
  obtain ⟨d0, d1, d2, dlt⟩ := hd
  obtain ⟨e0, e1, e2, elt⟩ := hd'
  go_wp2
  go_loopw [6] (fun c wr => ∃ k : Nat, k ≤ n ∧ c = .int .i64 k ∧ Below w0.heap.size w0 wr ∧ ∀ j, j < k → isoC pA pB (gz sA) (gz sB) n j = false) (fun c _ => n - (intOf c).toNat)
  case atStart => exact ⟨0, by omega, rfl, Below.refl _ _, fun j hj => absurd hj (by omega)⟩
  case round =>
    obtain ⟨k, hk, rfl, hbr, hno⟩ := hrel
    have HNO := Lib.hid hno
    clear hno
    have hk0 : (0 : Int) ≤ (k : Int) := Int.natCast_nonneg _
    by_cases hkn : k < n
    · have hk1 : (k : Int) < (n : Int) := by omega
      obtain ⟨wO, hwO⟩ : ∃ wO : World, wO = wr := ⟨_, rfl⟩
      subst hwO
      have HA0 : Hid (Arr (wO.alloc (.cells (cellsN n fun _ => .int .i64 0) 3)) wO.heap.size 3 n (zv fun i => if i < 0 then -1 else 0)) := Lib.hid ((Arr.new wO n 3 fun _ => .int .i64 0).congr fun i _ => by simp [zv])
      have hbO := below_alloc wO (.cells (cellsN n fun _ => .int .i64 0) 3)
      go_wp2
      go_loopw [40] (fun i wq => ∃ j : Nat, j ≤ n ∧ i = .int .i64 j ∧ Below wO.heap.size wO wq ∧ Arr wq wO.heap.size 3 n (zv fun i => if i < j then -1 else 0)) (fun i _ => n - (intOf i).toNat)
      case atStart => exact ⟨0, by omega, rfl, hbO, HA0.out⟩
      case round =>
        obtain ⟨j, hj, rfl, hbq, har⟩ := hrel
        have hj0 : (0 : Int) ≤ (j : Int) := Int.natCast_nonneg _
        by_cases hjn : j < n
        · have hj1 : (j : Int) < (n : Int) := by omega
          have hcell : wr.cell? ⟨wO.heap.size, j, none⟩ = some (.int .i64 0) := by have := har.cell j hjn; simpa [zv] using this
          have hfr := har.frozen j
          have HAR := Lib.hid har
          clear har
          go_wp2
          go_roundw
          case rel => exact ⟨j + 1, by omega, by go_num, below_set hbq (Nat.le_refl _) _, (HAR.out.set j (.int .i64 (-1))).congr fun i _ => by
            by_cases e : i = j
            · subst e; simp [zv]
            · have : i < j + 1 ↔ i < j := by omega
              simp [zv, e, this]⟩
          case measure => simp [intOf]; omega
        · obtain rfl : n = j := by omega
          have har2 : Arr wr wO.heap.size 3 n (zv fun _ => -1) := har.congr fun i hi => by simp only [zv, if_pos hi]
          have hcell : wr.cell? ⟨wO.heap.size, 0, none⟩ = some (.int .i64 (-1)) := har2.cell 0 hn0
          have hfr := har2.frozen 0
          have HAR := Lib.hid (iso0_set (c := k) har2)
          have hbS := below_set hbq (Nat.le_refl _) (i := 0) (.int .i64 (k : Nat))
          clear har har2 hj HA0 hbO hjn
          go_wp2
          obtain ⟨g, hg⟩ : ∃ g, wO.heap.size = g := ⟨_, rfl⟩
          have HG := Lib.hid hg
          rw [hg] at HAR hbS hcell hfr ⊢
          clear hg hcell hfr
          generalize wr.setCell ⟨g, 0, none⟩ (.int .i64 (k : Nat)) = wS at *
          have HBX : Hid (∀ W, Below g wO W → W.cell? ⟨w.heap.size, 0, none⟩ = some (.slice (some ⟨bA, oA, none⟩) n cs) ∧ W.cell? ⟨w.heap.size, 1, none⟩ = some (.slice (some ⟨bM, oM, none⟩) nm cm) ∧ W.cell? ⟨w.heap.size + 1, 0, none⟩ = some (.slice (some ⟨bA', oA', none⟩) n cs') ∧ W.cell? ⟨w.heap.size + 1, 1, none⟩ = some (.slice (some ⟨bM', oM', none⟩) nm cm')) := Lib.hid fun W h => by
            have h' : Below wO.heap.size wO W := by rw [HG.out]; exact h
            have h2 := below_step hbr h'
            exact ⟨(h2.cell (p := ⟨w.heap.size, 0, none⟩) dlt).trans d0, (h2.cell (p := ⟨w.heap.size, 1, none⟩) dlt).trans d1, (h2.cell (p := ⟨w.heap.size + 1, 0, none⟩) elt).trans e0, (h2.cell (p := ⟨w.heap.size + 1, 1, none⟩) elt).trans e1⟩
          have HMA2 : Hid (∀ W, Below g wO W → ∀ h, h < 4 * n → W.cell? ⟨bM, oM + h, none⟩ = some (.int .i64 (pA h : Int))) := Lib.hid fun W h x hx => by
            have h' : Below wO.heap.size wO W := by rw [HG.out]; exact h
            obtain ⟨z1, z2, _⟩ := HMA.out x (by have := HNM.out; omega)
            exact ((below_step hb0 (below_step hbr h')).cell (p := ⟨bM, oM + x, none⟩) z1).trans z2
          have HMB2 : Hid (∀ W, Below g wO W → ∀ h, h < 4 * n → W.cell? ⟨bM', oM' + h, none⟩ = some (.int .i64 (pB h : Int))) := Lib.hid fun W h x hx => by
            have h' : Below wO.heap.size wO W := by rw [HG.out]; exact h
            obtain ⟨z1, z2, _⟩ := HMB.out x (by have := HNM.out; omega)
            exact ((below_step hb0 (below_step hbr h')).cell (p := ⟨bM', oM' + x, none⟩) z1).trans z2
          have HSA2 : Hid (∀ W, Below g wO W → ∀ i, i < n → W.cell? ⟨bA, oA + i, none⟩ = some (.int .i64 (gz sA i)) ∧ W.cell? ⟨bA', oA' + i, none⟩ = some (.int .i64 (gz sB i))) := Lib.hid fun W h x hx => by
            have h' : Below wO.heap.size wO W := by rw [HG.out]; exact h
            obtain ⟨z1, z2⟩ := HSA.out x hx
            obtain ⟨z3, z4⟩ := HSB.out x hx
            have hb := below_step hb0 (below_step hbr h')
            exact ⟨(hb.cell (p := ⟨bA, oA + x, none⟩) z1).trans z2, (hb.cell (p := ⟨bA', oA' + x, none⟩) z3).trans z4⟩
          have HB0 := Lib.hid hb0
          have HBR := Lib.hid hbr
          clear d0 d1 d2 e0 e1 e2 dlt elt hb0 hbr hbA hbM hbA' hbM' hw0 hsl
          have hR0 : Hid (imgR n (iso0 k).img) := Lib.hid (iso0_r hkn)
          have hRR : Hid (∀ q, imgR n (isoR pA pB n (iso0 k) q).img) := Lib.hid (isoR_r HPA.out HPB.out hR0.out)
          go_loopw [9, 10] (fun o r wq => ∃ q : Nat, q ≤ n + 1 ∧ r = .int .i64 q ∧ o = .bool (isoR pA pB n (iso0 k) q).ok ∧ Below g wO wq ∧ Arr wq g 3 n (zv (isoR pA pB n (iso0 k) q).img)) (fun _ r _ => n + 2 - (intOf r).toNat)
          case atStart => exact ⟨0, by omega, rfl, rfl, hbS, HAR.out⟩
          case round =>
            obtain ⟨q, hq, rfl, rfl, hbq2, har⟩ := hrel
            have hq0 : (0 : Int) ≤ (q : Int) := Int.natCast_nonneg _
            have HAQ := Lib.hid har
            clear har hbS hbq
            by_cases hqn : q < n + 1
            · have hqn1 : (q : Int) ≤ (n : Int) := by omega
              have HRq := Lib.hid (hRR.out q)
              have HSx : Hid (isoR pA pB n (iso0 k) (q + 1) = isoH pA pB (isoR pA pB n (iso0 k) q) (4 * n)) := Lib.hid rfl
              generalize isoR pA pB n (iso0 k) q = S at *
              obtain ⟨wP, hwP⟩ : ∃ wP : World, wP = wr := ⟨_, rfl⟩
              subst hwP
              go_wp2
              go_loopw [9, 11] (fun o h wq => ∃ j : Nat, j ≤ 4 * n ∧ h = .int .i64 j ∧ o = .bool (isoH pA pB S j).ok ∧ Below g wO wq ∧ Arr wq g 3 n (zv (isoH pA pB S j).img)) (fun _ h _ => 4 * n - (intOf h).toNat)
              case atStart => exact ⟨0, by omega, rfl, rfl, hbq2, HAQ.out⟩
              case round =>
                obtain ⟨j, hj, rfl, rfl, hbj, har⟩ := hrel
                have hj0 : (0 : Int) ≤ (j : Int) := Int.natCast_nonneg _
                by_cases hjn : j < 4 * n
                · have HRj := Lib.hid (isoH_r HPA.out HPB.out HRq.out j hj)
                  have HST : Hid (isoH pA pB S (j + 1) = isoStep pA pB j (isoH pA pB S j)) := Lib.hid rfl
                  generalize isoH pA pB S j = Z at *
                  obtain ⟨img, ok⟩ := Z
                  simp only at har HRj
                  have hj1 : (j : Int) < 4 * (n : Int) := by omega
                  obtain ⟨jq, hjq⟩ : ∃ jq, j / 4 = jq := ⟨_, rfl⟩
                  obtain ⟨jr, hjr⟩ : ∃ jr, j % 4 = jr := ⟨_, rfl⟩
                  have hjqn : jq < n := by omega
                  have hd4 : (j : Int) / 4 = (jq : Int) := by omega
                  have hm4 : (j : Int) % 4 = (jr : Int) := by omega
                  have hjr4 : (jr : Int) < 4 := by omega
                  have hjr0 : (0 : Int) ≤ (jr : Int) := Int.natCast_nonneg _
                  have hjq0 : (0 : Int) ≤ (jq : Int) := Int.natCast_nonneg _
                  have hjq1 : (jq : Int) < (n : Int) := by omega
                  have hcq := har.cell jq hjqn
                  obtain ⟨r0, r1⟩ := HRj.out jq hjqn
                  by_cases hneg : img jq < 0
                  · have HAJ := Lib.hid har
                    have HS2 : Hid (isoH pA pB S (j + 1) = ⟨img, ok⟩) := Lib.hid (by rw [HST.out]; unfold isoStep; simp only; rw [hjq, if_pos hneg])
                    unfold zv at hcq
                    obtain ⟨x, hx⟩ : ∃ x, img jq = x := ⟨_, rfl⟩
                    rw [hx] at hcq hneg r0 r1
                    clear har hx
                    go_wp2
                    go_roundw
                    case rel => exact ⟨j + 1, by omega, by go_num, by rw [HS2.out], hbj, by rw [HS2.out]; exact HAJ.out⟩
                    case measure => simp [intOf]; omega
                  · obtain ⟨v, hv⟩ : ∃ v : Nat, img jq = (v : Int) := ⟨(img jq).toNat, by omega⟩
                    have hvn : v < n := by omega
                    obtain ⟨e, he⟩ : ∃ e, 4 * v + jr = e := ⟨_, rfl⟩
                    have hen : e < 4 * n := by omega
                    have hei : 4 * (v : Int) + (jr : Int) = (e : Int) := by omega
                    obtain ⟨x1, x2, x3, x4⟩ := HBX.out _ hbj
                    have y1 := HMA2.out _ hbj j hjn
                    have y2 := HMB2.out _ hbj e hen
                    have hmn := HPB.out e hen
                    have hman := HPA.out j hjn
                    have hSt : isoStep pA pB j ⟨img, ok⟩ = ⟨if img (pA j / 4) < 0 then (fun i => if i = pA j / 4 then ((pB e / 4 : Nat) : Int) else img i) else img, ok && decide ((pB e : Int) = 4 * (if img (pA j / 4) < 0 then (fun i => if i = pA j / 4 then ((pB e / 4 : Nat) : Int) else img i) else img) (pA j / 4) + ((pA j % 4 : Nat) : Int))⟩ := isoStep_pos (by rw [hjq]; exact hv) (by rw [hjr]; exact he)
                    obtain ⟨m, hm⟩ : ∃ m, pB e = m := ⟨_, rfl⟩
                    obtain ⟨a, ha⟩ : ∃ a, pA j = a := ⟨_, rfl⟩
                    rw [hm, ha] at hSt
                    rw [hm] at y2 hmn
                    rw [ha] at y1 hman
                    obtain ⟨mq, hmq⟩ : ∃ mq, m / 4 = mq := ⟨_, rfl⟩
                    obtain ⟨aq, haq⟩ : ∃ aq, a / 4 = aq := ⟨_, rfl⟩
                    obtain ⟨ar, har4⟩ : ∃ ar, a % 4 = ar := ⟨_, rfl⟩
                    rw [hmq, haq, har4] at hSt
                    have haqn : aq < n := by omega
                    have hca := har.cell aq haqn
                    have hfa := har.frozen aq
                    obtain ⟨s0, s1⟩ := HRj.out aq haqn
                    have i1 : (m : Int) / 4 = (mq : Int) := by omega
                    have i2 : (a : Int) / 4 = (aq : Int) := by omega
                    have i3 : (a : Int) % 4 = (ar : Int) := by omega
                    have i4 : (0 : Int) ≤ (m : Int) := Int.natCast_nonneg _
                    have i5 : (0 : Int) ≤ (a : Int) := Int.natCast_nonneg _
                    have i6 : (0 : Int) ≤ (e : Int) := Int.natCast_nonneg _
                    have i7 : (e : Int) < 4 * (n : Int) := by omega
                    have i8 : (0 : Int) ≤ (v : Int) := Int.natCast_nonneg _
                    have i9 : (v : Int) < (n : Int) := by omega
                    have j1 : (0 : Int) ≤ (aq : Int) := Int.natCast_nonneg _
                    have j2 : (aq : Int) < (n : Int) := by omega
                    have j3 : (0 : Int) ≤ (ar : Int) := Int.natCast_nonneg _
                    have j4 : (ar : Int) < 4 := by omega
                    have j5 : (0 : Int) ≤ (mq : Int) := Int.natCast_nonneg _
                    have j6 : (mq : Int) < (n : Int) := by omega
                    have j7 : (m : Int) < 4 * (n : Int) := by omega
                    have j8 : (a : Int) < 4 * (n : Int) := by omega
                    have hnmi : (nm : Int) = 4 * (n : Int) := by have := HNM.out; omega
                    have HNMI := Lib.hid hnmi
                    have i7' : (e : Int) < (nm : Int) := by omega
                    have hj1' : (j : Int) < (nm : Int) := by omega
                    unfold zv at hcq hca
                    rw [hv] at hcq
                    have HAJ := Lib.hid har
                    have HSt := Lib.hid hSt
                    have HA1 := Lib.hid ha
                    clear hSt har hnmi hm ha hmq haq har4 he hv hjq hjr hmn hman r0 r1 hneg
                    by_cases hneg2 : img aq < 0
                    · have HS3 : Hid (isoH pA pB S (j + 1) = ⟨fun i => if i = aq then (mq : Int) else img i, ok && decide ((m : Int) = 4 * (mq : Int) + (ar : Int))⟩) := Lib.hid (by
                        rw [HST.out, HSt.out]
                        simp only [if_pos hneg2, if_true])
                      obtain ⟨x, hx⟩ : ∃ x, img aq = x := ⟨_, rfl⟩
                      rw [hx] at hca hneg2
                      have hw3 : IntKind.i64.wrap (mq : Int) = (mq : Int) := IntWalk.i64_in _ (by omega)
                      clear hx s0 s1
                      go_wp2
                      go_quiet (fail)
                      go_upto_region 27 with fail
                      have hbS2 := below_set (below_drewN hbj nq) (Nat.le_refl _) (i := aq) (.int .i64 (mq : Nat))
                      have HA3 : Hid (Arr ((wr.drewN nq).setCell ⟨g, aq, none⟩ (.int .i64 (mq : Nat))) g 3 n (zv fun i => if i = aq then (mq : Int) else img i)) := Lib.hid (((show Arr (wr.drewN nq) g 3 n (zv img) from HAJ.out).set aq (.int .i64 (mq : Nat))).congr fun i _ => by
                        by_cases e : i = aq <;> simp [zv, e])
                      clear x1 x2 x3 x4 y1 y2 hcq hca hfa
                      generalize (wr.drewN nq).setCell ⟨g, aq, none⟩ (.int .i64 (mq : Nat)) = wT at *
                      obtain ⟨x1, x2, x3, x4⟩ := HBX.out _ hbS2
                      have y1 := HMA2.out _ hbS2 j hjn
                      rw [HA1.out] at y1
                      have hca : wT.cell? ⟨g, aq, none⟩ = some (.int .i64 (mq : Int)) := by have := HA3.out.cell aq haqn; simpa [zv] using this
                      cases ok with
                      | false =>
                        go_quiet (fail)
                        go_wp2
                        go_roundw
                        case rel => exact ⟨j + 1, by omega, by go_num, by rw [HS3.out]; rfl, below_drewN hbS2 _, by rw [HS3.out]; exact HA3.out⟩
                        case measure => simp [intOf]; omega
                      | true =>
                        by_cases heq : (m : Int) = 4 * (mq : Int) + (ar : Int)
                        · have hbq3 : ((m : Int) == 4 * (mq : Int) + (ar : Int)) = true := beq_iff_eq.2 heq
                          have HQ := Lib.hid heq
                          clear heq
                          go_quiet (fail)
                          go_wp2
                          go_roundw
                          case rel => exact ⟨j + 1, by omega, by go_num, by rw [HS3.out, decide_eq_true HQ.out]; rfl, below_drewN hbS2 _, by rw [HS3.out]; exact HA3.out⟩
                          case measure => simp [intOf]; omega
                        · have hbq3 : ((m : Int) == 4 * (mq : Int) + (ar : Int)) = false := beq_eq_false_iff_ne.2 heq
                          have HQ := Lib.hid heq
                          clear heq
                          go_quiet (fail)
                          go_wp2
                          go_roundw
                          case rel => exact ⟨j + 1, by omega, by go_num, by rw [HS3.out, decide_eq_false HQ.out]; rfl, below_drewN hbS2 _, by rw [HS3.out]; exact HA3.out⟩
                          case measure => simp [intOf]; omega
                    · obtain ⟨u, hu⟩ : ∃ u : Nat, img aq = (u : Int) := ⟨(img aq).toNat, by omega⟩
                      have k0 : (0 : Int) ≤ (u : Int) := Int.natCast_nonneg _
                      have k1 : (u : Int) < (n : Int) := by omega
                      have HS3 : Hid (isoH pA pB S (j + 1) = ⟨img, ok && decide ((m : Int) = 4 * (u : Int) + (ar : Int))⟩) := Lib.hid (by
                        rw [HST.out, HSt.out]
                        simp only [if_neg hneg2]
                        rw [hu])
                      rw [hu] at hca
                      clear hu hneg2 s0 s1
                      cases ok with
                      | false =>
                        go_wp2
                        go_quiet (fail)
                        go_wp2
                        go_quiet (fail)
                        go_wp2
                        go_roundw
                        case rel => exact ⟨j + 1, by omega, by go_num, by rw [HS3.out]; rfl, below_drewN hbj _, by rw [HS3.out]; exact HAJ.out⟩
                        case measure => simp [intOf]; omega
                      | true =>
                        by_cases heq : (m : Int) = 4 * (u : Int) + (ar : Int)
                        · have hbq3 : ((m : Int) == 4 * (u : Int) + (ar : Int)) = true := beq_iff_eq.2 heq
                          have HQ := Lib.hid heq
                          clear heq
                          go_wp2
                          go_quiet (fail)
                          go_wp2
                          go_quiet (fail)
                          go_wp2
                          go_roundw
                          case rel => exact ⟨j + 1, by omega, by go_num, by rw [HS3.out, decide_eq_true HQ.out]; rfl, below_drewN hbj _, by rw [HS3.out]; exact HAJ.out⟩
                          case measure => simp [intOf]; omega
                        · have hbq3 : ((m : Int) == 4 * (u : Int) + (ar : Int)) = false := beq_eq_false_iff_ne.2 heq
                          have HQ := Lib.hid heq
                          clear heq
                          go_wp2
                          go_quiet (fail)
                          go_wp2
                          go_quiet (fail)
                          go_wp2
                          go_roundw
                          case rel => exact ⟨j + 1, by omega, by go_num, by rw [HS3.out, decide_eq_false HQ.out]; rfl, below_drewN hbj _, by rw [HS3.out]; exact HAJ.out⟩
                          case measure => simp [intOf]; omega
                · obtain rfl : j = 4 * n := by omega
                  have HAJ := Lib.hid har
                  clear har
                  go_wp2
                  go_roundw
                  case rel => exact ⟨q + 1, by omega, by go_num, by rw [HSx.out], hbj, by rw [HSx.out]; exact HAJ.out⟩
                  case measure => simp [intOf]; omega
            · obtain rfl : q = n + 1 := by omega
              have HRq := Lib.hid (hRR.out (n + 1))
              have HC : Hid (isoC pA pB (gz sA) (gz sB) n k = isoE (gz sA) (gz sB) (isoR pA pB n (iso0 k) (n + 1)).img (isoR pA pB n (iso0 k) (n + 1)).ok n) := Lib.hid rfl
              generalize isoR pA pB n (iso0 k) (n + 1) = S at *
              obtain ⟨img, ok⟩ := S
              obtain ⟨wP, hwP⟩ : ∃ wP : World, wP = wr := ⟨_, rfl⟩
              subst hwP
              go_wp2
              go_loopw [9, 13] (fun o i wq => ∃ j : Nat, j ≤ n ∧ i = .int .i64 j ∧ o = .bool (isoE (gz sA) (gz sB) img ok j) ∧ Below g wO wq ∧ Arr wq g 3 n (zv img)) (fun _ i _ => n - (intOf i).toNat)
              case atStart => exact ⟨0, by omega, rfl, rfl, hbq2, HAQ.out⟩
              case round =>
                obtain ⟨j, hj, rfl, rfl, hbj, har⟩ := hrel
                have hj0 : (0 : Int) ≤ (j : Int) := Int.natCast_nonneg _
                have HAJ := Lib.hid har
                by_cases hjn : j < n
                · have hj1 : (j : Int) < (n : Int) := by omega
                  have hcj := har.cell j hjn
                  unfold zv at hcj
                  obtain ⟨x1, x2, x3, x4⟩ := HBX.out _ hbj
                  obtain ⟨y1, _⟩ := HSA2.out _ hbj j hjn
                  obtain ⟨r0, r1⟩ := HRq.out j hjn
                  have HE : Hid (isoE (gz sA) (gz sB) img ok (j + 1) = (isoE (gz sA) (gz sB) img ok j && decide (0 ≤ img j) && decide (gz sA j = gz sB (img j).toNat))) := Lib.hid rfl
                  generalize isoE (gz sA) (gz sB) img ok j = E at *
                  clear har
                  cases E with
                  | false =>
                    go_wp2
                    go_quiet (fail)
                    go_wp2
                    go_roundw
                    case rel => exact ⟨j + 1, by omega, by go_num, by rw [HE.out]; rfl, below_drewN hbj _, HAJ.out⟩
                    case measure => simp [intOf]; omega
                  | true =>
                    by_cases hneg : img j < 0
                    · have HF : Hid (isoE (gz sA) (gz sB) img ok (j + 1) = false) := Lib.hid (by rw [HE.out, decide_eq_false (show ¬ 0 ≤ img j by omega)]; rfl)
                      obtain ⟨x, hx⟩ : ∃ x, img j = x := ⟨_, rfl⟩
                      rw [hx] at hcj hneg
                      have hq0 : decide (0 ≤ x) = false := decide_eq_false (by omega)
                      have hq1 : ¬ 0 ≤ x := by omega
                      clear hx HE r0 r1
                      go_wp2
                      go_quiet (fail)
                      go_wp2
                      go_roundw
                      case rel => exact ⟨j + 1, by omega, by go_num, by rw [HF.out], below_drewN hbj _, HAJ.out⟩
                      case measure => simp [intOf]; omega
                    · obtain ⟨v, hv⟩ : ∃ v : Nat, img j = (v : Int) := ⟨(img j).toNat, by omega⟩
                      have hvn : v < n := by omega
                      obtain ⟨_, y2⟩ := HSA2.out _ hbj v hvn
                      have HF : Hid (isoE (gz sA) (gz sB) img ok (j + 1) = decide (gz sA j = gz sB v)) := Lib.hid (by rw [HE.out, decide_eq_true (show 0 ≤ img j by omega), hv, Int.toNat_natCast]; rfl)
                      rw [hv] at hcj
                      obtain ⟨a1, ha1⟩ : ∃ a1, gz sA j = a1 := ⟨_, rfl⟩
                      obtain ⟨b1, hb1⟩ : ∃ b1, gz sB v = b1 := ⟨_, rfl⟩
                      rw [ha1] at y1 HF
                      rw [hb1] at y2 HF
                      have hv0 : (0 : Int) ≤ (v : Int) := Int.natCast_nonneg _
                      have hv1 : (v : Int) < (n : Int) := by omega
                      clear hv ha1 hb1 HE r0 r1 hneg
                      by_cases heq : a1 = b1
                      · have hbq3 : (a1 == b1) = true := beq_iff_eq.2 heq
                        have HQ := Lib.hid heq
                        clear heq
                        go_wp2
                        go_quiet (fail)
                        go_wp2
                        go_roundw
                        case rel => exact ⟨j + 1, by omega, by go_num, by rw [HF.out, decide_eq_true HQ.out], below_drewN hbj _, HAJ.out⟩
                        case measure => simp [intOf]; omega
                      · have hbq3 : (a1 == b1) = false := beq_eq_false_iff_ne.2 heq
                        have HQ := Lib.hid heq
                        clear heq
                        go_wp2
                        go_quiet (fail)
                        go_wp2
                        go_roundw
                        case rel => exact ⟨j + 1, by omega, by go_num, by rw [HF.out, decide_eq_false HQ.out], below_drewN hbj _, HAJ.out⟩
                        case measure => simp [intOf]; omega
                · obtain rfl : n = j := by omega
                  clear har
                  cases hE : isoE (gz sA) (gz sB) img ok n with
                  | true =>
                    have hM : isoM pA pB (gz sA) (gz sB) n = true := List.any_eq_true.2 ⟨k, List.mem_range.2 hkn, HC.out.trans hE⟩
                    have HM := Lib.hid hM
                    clear hM hE
                    go_wp2
                    go_ret
                    exact ⟨by rw [HM.out]; rfl, below_step (below_step HB0.out HBR.out) (by rw [HG.out]; exact hbj)⟩
                  | false =>
                    have HM := Lib.hid (HC.out.trans hE)
                    clear hE
                    go_wp2
                    go_roundw
                    case rel => exact ⟨k + 1, by omega, by go_num, below_step HBR.out (by rw [HG.out]; exact hbj), fun i hi => by
                      by_cases e : i = k
                      · rw [e]; exact HM.out
                      · exact HNO.out i (by omega)⟩
                    case measure => simp [intOf]; omega
    · obtain rfl : n = k := by omega
      have hM : isoM pA pB (gz sA) (gz sB) n = false := by
        cases e : isoM pA pB (gz sA) (gz sB) n with
        | false => rfl
        | true =>
          obtain ⟨c, hc, h⟩ := List.any_eq_true.1 e
          rw [HNO.out c (List.mem_range.1 hc)] at h
          cases h
      have HM := Lib.hid hM
      clear hM
      go_wp2
      go_ret
      exact ⟨by rw [HM.out]; rfl, below_step hb0 hbr⟩

end Go.Proofs.Ytebliaclleplgaa

/- Plain: the half-edges of a knot's diagram, in the order of its passages, are those that its code draws. -/
namespace Go.Proofs.Ytebliaclleplgaa

def stN (st : List Int) (p : Nat) : Nat := (st.getD p 0).toNat
/-- The signs of a diagram in the order of its code. -/
def sgF (s st : List Int) (n : Nat) : List Int := (List.range n).map fun i => s.getD (cr st (2 * i)) 0
theorem sgF_get {s st : List Int} {n i : Nat} (hi : i < n) : (sgF s st n).getD i 0 = s.getD (cr st (2 * i)) 0 := by simp [sgF, List.getD, hi]
theorem out_even {s : List Int} {x : Nat} (h : outB s x = true) (he : x % 2 = 0) : x % 4 = 2 := by
  unfold outB at h
  have : x % 4 = 0 ∨ x % 4 = 2 := by omega
  rcases this with e | e
  · simp [e] at h
  · exact e
theorem out_odd {s : List Int} {x : Nat} (_hs : s.getD (x / 4) 0 = 1 ∨ s.getD (x / 4) 0 = -1) (h : outB s x = true) (he : x % 2 = 1) : x % 4 = soN (s.getD (x / 4) 0) := by
  unfold outB at h
  have : x % 4 = 1 ∨ x % 4 = 3 := by omega
  rcases this with e | e
  · rw [if_pos e] at h
    have h1 : s.getD (x / 4) 0 = 1 := by simpa using h
    rw [e, h1]; rfl
  · rw [if_neg (by omega), if_neg (by omega), if_pos e] at h
    have h1 : s.getD (x / 4) 0 = -1 := by simpa using h
    rw [e, h1]; rfl
theorem tau_at {s st : List Int} {n : Nat} (K : KnotSt st n) (h1 : 1 ≤ n) (h2 : n ≤ 64) (hsg : ∀ i, i < n → s.getD i 0 = 1 ∨ s.getD i 0 = -1) (hout : ∀ p, p < 2 * n → outB s (stN st p) = true) (hpar : ∀ p q, p < 2 * n → q < 2 * n → p ≠ q → stN st p / 4 = stN st q / 4 → (stN st p % 4 + stN st q % 4) % 2 = 1) {i : Nat} (hi : i < n) :
    4 * cr st (2 * i) + soN ((sgF s st n).getD i 0) = stN st (ovN (cdF st n) i) ∧ 4 * cr st (2 * i) + 2 = stN st (unN (cdF st n) i) := by
  obtain ⟨j, hj, e1, e2⟩ := K.mate hi
  have hv := K.valid h1 h2
  have hd := dhalf_eq hv (i := i) (by rw [cdF_length]; exact hi)
  rw [e2, szI_vlO st j (by omega)] at hd
  have hdj : dhalf (cdF st n) i = j := by omega
  have c0 : cr st (2 * i) = stN st (2 * i) / 4 := rfl
  have c1 : cr st (2 * j + 1) = stN st (2 * j + 1) / 4 := rfl
  have hp := hpar (2 * i) (2 * j + 1) (by omega) (by omega) (by omega) (by rw [← c0, ← c1, e1])
  have o0 := hout (2 * i) (by omega)
  have o1 := hout (2 * j + 1) (by omega)
  have r0 := (K.rg (2 * i) (by omega)).2
  have g0 := hsg (cr st (2 * i)) r0
  rw [sgF_get hi]
  unfold ovN unN
  rw [e2, hdj]
  by_cases hodd : stN st (2 * j + 1) % 2 = 1
  · have hneg : vlO st j < 0 := by
      unfold vlO
      rw [if_pos (show (st.getD (2 * j + 1) 0).toNat % 2 = 1 from hodd)]; omega
    rw [if_pos hneg, if_pos hneg]
    have k1 := out_odd (by rw [← c1, e1]; exact g0) o1 hodd
    rw [← c1, e1] at k1
    have k0 := out_even o0 (by omega)
    rw [c0] at e1 k1 ⊢
    constructor
    · rw [← k1]; omega
    · omega
  · have hneg : ¬ vlO st j < 0 := by
      unfold vlO
      rw [if_neg (show ¬ (st.getD (2 * j + 1) 0).toNat % 2 = 1 from hodd)]; omega
    rw [if_neg hneg, if_neg hneg]
    have k1 := out_even o1 (by omega)
    have k0 := out_odd (by rw [← c0]; exact g0) o0 (by omega)
    rw [c0] at e1 ⊢
    constructor
    · rw [← k0]; omega
    · omega
/-- The code's place p goes out where the diagram's passage p goes out. -/
theorem tau_ex {s st : List Int} {n : Nat} (K : KnotSt st n) (h1 : 1 ≤ n) (h2 : n ≤ 64) (hsg : ∀ i, i < n → s.getD i 0 = 1 ∨ s.getD i 0 = -1) (hout : ∀ p, p < 2 * n → outB s (stN st p) = true) (hpar : ∀ p q, p < 2 * n → q < 2 * n → p ≠ q → stN st p / 4 = stN st q / 4 → (stN st p % 4 + stN st q % 4) % 2 = 1) {p : Nat} (hp : p < 2 * n) :
    4 * cr st (2 * (exN (cdF st n) (sgF s st n) n p / 4)) + exN (cdF st n) (sgF s st n) n p % 4 = stN st p := by
  have hv := K.valid h1 h2
  obtain ⟨i, hi, e⟩ := pos_ex hv (cdF_length st n) hp
  obtain ⟨a1, a2⟩ := exN_at (sgF s st n) hv (k := n) (i := i) hi (by rw [cdF_length]; exact Nat.le_refl _)
  obtain ⟨b1, b2⟩ := tau_at K h1 h2 hsg hout hpar hi
  rcases soN_cases ((sgF s st n).getD i 0) with q | q
  · rcases e with rfl | rfl
    · rw [a1, ← b1, q]; have : (4 * i + 1) / 4 = i := by omega
      rw [this]; omega
    · rw [a2, ← b2]; have : (4 * i + 2) / 4 = i := by omega
      rw [this]; omega
  · rcases e with rfl | rfl
    · rw [a1, ← b1, q]; have : (4 * i + 3) / 4 = i := by omega
      rw [this]; omega
    · rw [a2, ← b2]; have : (4 * i + 2) / 4 = i := by omega
      rw [this]; omega

theorem succ_mod {k L : Nat} (h : k < L) : (k + 1) % L = if k + 1 = L then 0 else k + 1 := by
  split
  · next e => rw [e, Nat.mod_self]
  · next e => exact Nat.mod_eq_of_lt (by omega)
theorem jn_in {E : Nat → Nat} {L : Nat} {M : Nat → Nat} (hi : ∀ p q, p < L → q < L → E p = E q → p = q) (ho : ∀ p q, p < L → q < L → E p ≠ trn (E q) 2) (hL : 0 < L) (K : Nat) (hK : K ≤ L) {k : Nat} (hk : k < K) : jnN E L K M (trn (E ((k + 1) % L)) 2) = E k := by
  induction K with
  | zero => omega
  | succ K ih =>
    have hm1 : (K + 1) % L < L := Nat.mod_lt _ hL
    have hm2 : (k + 1) % L < L := Nat.mod_lt _ hL
    show upd (upd (jnN E L K M) (E K) (trn (E ((K + 1) % L)) 2)) (trn (E ((K + 1) % L)) 2) (E K) (trn (E ((k + 1) % L)) 2) = E k
    unfold upd
    by_cases e : k = K
    · subst e; rw [if_pos rfl]
    · rw [if_neg (fun q => ?_), if_neg (fun q => ho K _ (by omega) hm2 q.symm)]
      · exact ih (by omega) (by omega)
      · have h1 := hi _ _ hm2 hm1 (trn_inj q)
        rw [succ_mod (by omega), succ_mod (by omega)] at h1
        split at h1 <;> split at h1 <;> omega
theorem mkM_out {code s : List Int} {n k : Nat} (h : dvB code = true) (hn : code.length = n) (hs : sgnsB s = true) (hl : s.length = n) (hk : k < 2 * n) : matesOf (mkM code s) (exN code s n k) = trn (exN code s n ((k + 1) % (2 * n))) 2 := by
  have := mkM_step h hn hs hl hk
  unfold fs at this
  rw [← this, trn_two]
theorem mkM_in {code s : List Int} {n k : Nat} (h : dvB code = true) (hn : code.length = n) (hs : sgnsB s = true) (hl : s.length = n) (hk : k < 2 * n) : matesOf (mkM code s) (trn (exN code s n ((k + 1) % (2 * n))) 2) = exN code s n k := by
  have hm : (k + 1) % (2 * n) < 2 * n := Nat.mod_lt _ (by omega)
  have hlt := (ex_out h hn hs hl hm).2.2
  have hj := jn_in (E := exN code s n) (L := 2 * n) (M := fun _ => 0) (fun p q hp hq e => ex_inj h hn hp hq e)
    (fun p q hp hq e => by
      have h1 := (ex_out h hn hs hl hp).1
      rw [e, (ex_out h hn hs hl hq).2.1] at h1
      cases h1) (by omega) (2 * n) (Nat.le_refl _) hk
  unfold matesOf mt mkM
  rw [hn, lstN_get (trn_lt hlt), hj]
  rfl
theorem sgF_length (s st : List Int) (n : Nat) : (sgF s st n).length = n := by simp [sgF]

theorem tau_trn (f : Nat → Nat) (x : Nat) : 4 * f (trn x 2 / 4) + trn x 2 % 4 = trn (4 * f (x / 4) + x % 4) 2 := by
  rw [trn_div]; unfold trn; omega
theorem ov_half (code : List Int) (i : Nat) : ovN code i = 2 * i ∨ unN code i = 2 * i := by unfold ovN unN; split <;> simp
theorem ex_even {code s : List Int} {n i : Nat} (h : dvB code = true) (hn : code.length = n) (hi : i < n) : exN code s n (2 * i) / 4 = i := by
  obtain ⟨a1, a2⟩ := exN_at s h (k := n) (i := i) hi (by omega)
  rcases ov_half code i with e | e
  · rw [← e, a1]
    rcases soN_cases (s.getD i 0) with q | q <;> rw [q] <;> omega
  · rw [← e, a2]; omega
/-- A knot's diagram is, up to the numbering, what its code draws with the signs of its crossings. -/
theorem back_iso {s m st : List Int} {n : Nat} (K : KnotSt st n) (h1 : 1 ≤ n) (h2 : n ≤ 64) (hsg : ∀ i, i < n → s.getD i 0 = 1 ∨ s.getD i 0 = -1) (hls : sgnsB (sgF s st n) = true) (hout : ∀ p, p < 2 * n → outB s (stN st p) = true) (hpar : ∀ p q, p < 2 * n → q < 2 * n → p ≠ q → stN st p / 4 = stN st q / 4 → (stN st p % 4 + stN st q % 4) % 2 = 1)
    (hlt : ∀ h, h < 4 * n → matesOf m h < 4 * n) (hinv : ∀ h, h < 4 * n → matesOf m (matesOf m h) = h) (hst : ∀ p, p < 2 * n → stN st p < 4 * n) (hstep : ∀ p, p < 2 * n → matesOf m (stN st p) = trn (stN st ((p + 1) % (2 * n))) 2) :
    IsoF (matesOf (mkM (cdF st n) (sgF s st n))) (matesOf m) (gz (sgF s st n)) (gz s) n (fun i => cr st (2 * i)) := by
  have hv := K.valid h1 h2
  have hcl := cdF_length st n
  have hsl := sgF_length s st n
  have tau := fun {p} (hp : p < 2 * n) => tau_ex K h1 h2 hsg hout hpar hp
  have mo := fun {k} (hk : k < 2 * n) => mkM_out hv hcl hls hsl hk
  have mi := fun {k} (hk : k < 2 * n) => mkM_in hv hcl hls hsl hk
  have el := fun {p} (hp : p < 2 * n) => (ex_out hv hcl hls hsl hp).2.2
  have hmod : ∀ k, (k + 1) % (2 * n) < 2 * n := fun k => Nat.mod_lt _ (by omega)
  have hin : ∀ p, p < 2 * n → matesOf m (trn (stN st ((p + 1) % (2 * n))) 2) = stN st p := fun p hp => by
    rw [← hstep p hp, hinv _ (hst p hp)]
  refine ⟨by omega, fun h hh => ?_, hlt, fun i hi => (K.rg (2 * i) (by omega)).2, fun h hh => ?_, fun i hi => sgF_get hi, fun S S0 hS i hi => ?_⟩
  · obtain ⟨k, hk, e | e⟩ := jn_cover (sgF s st n) hv hcl hh
    · rw [← e, mo hk]; exact trn_lt (el (hmod k))
    · rw [← e, mi hk]; exact el hk
  · obtain ⟨k, hk, e | e⟩ := jn_cover (sgF s st n) hv hcl hh
    · rw [← e, mo hk, tau hk, hstep k hk, tau_trn (fun i => cr st (2 * i)), tau (hmod k)]
    · rw [← e, mi hk, tau_trn (fun i => cr st (2 * i)), tau (hmod k), hin k hk, tau hk]
  · have key : ∀ p, p < 2 * n → S (exN (cdF st n) (sgF s st n) n p / 4) := by
      intro p
      induction p with
      | zero =>
        intro _
        have := ex_even (s := sgF s st n) (i := 0) hv hcl (by omega)
        rw [Nat.mul_zero] at this
        rw [this]; exact S0
      | succ p ih =>
        intro hp
        have := hS _ (el (p := p) (by omega)) (ih (by omega))
        rw [mo (by omega), trn_div, succ_mod (by omega), if_neg (by omega)] at this
        exact this
    have := key (2 * i) (by omega)
    rwa [ex_even hv hcl hi] at this

theorem knot_run {s m : List Int} {lp : Int} (hv : validB s m lp = true) (h1 : 1 ≤ s.length) (hc : compM s m lp ≤ 1) : lp = 0 ∧ ∃ st r, strandsM s m lp = [st] ∧ KnotSt st s.length ∧ r < m.length ∧ outB s r = true ∧ per (fs (matesOf m)) m.length r = 2 * s.length ∧ ∀ j, j < 2 * s.length → stN st j = it (fs (matesOf m)) j r := by
  have F := bk_facts hv
  have hlm := F.lm
  obtain ⟨_, _, l3, _⟩ := limB_out F.lim
  have e1 : strandsM s m lp = (reprs (fs (matesOf m)) m.length (outB s)).map (fun h => itl (fs (matesOf m)) h (per (fs (matesOf m)) m.length h)) := by unfold strandsM; rw [if_pos hv, cycL_reprs]
  have o2 : outB s 2 = true := by unfold outB; rfl
  obtain ⟨r0, hr0, _⟩ := reprs_ex F.p (by omega : 2 < m.length) o2
  have hlen : (strandsM s m lp).length = (reprs (fs (matesOf m)) m.length (outB s)).length := by rw [e1, List.length_map]
  rw [compM_add hv] at hc
  have hpos : 0 < (reprs (fs (matesOf m)) m.length (outB s)).length := List.length_pos_of_mem hr0
  refine ⟨by omega, ?_⟩
  have hsum := sum_per F.p F.c
  rw [hlm, bk_count F.sg rfl] at hsum
  match hq : reprs (fs (matesOf m)) m.length (outB s) with
  | [] => rw [hq] at hpos; simp at hpos
  | _ :: _ :: _ => rw [hq] at hlen; simp at hlen; omega
  | [r] =>
    rw [hlm] at hq
    rw [hq] at hsum
    have hper : per (fs (matesOf m)) m.length r = 2 * s.length := by rw [hlm]; simpa [lenSum] using hsum
    have hr : r ∈ reprs (fs (matesOf m)) m.length (outB s) := by rw [hlm, hq]; simp
    obtain ⟨hrl, hrs⟩ := reprs_mem.1 hr
    have ho := ((F.p.sel_iff _ hrl).1 hrs).1
    refine ⟨itl (fs (matesOf m)) r (per (fs (matesOf m)) m.length r), r, by rw [e1, hlm, hq]; rfl, ?_⟩
    rw [hper]
    have hget : ∀ j, j < 2 * s.length → (itl (fs (matesOf m)) r (2 * s.length)).getD j 0 = (it (fs (matesOf m)) j r : Int) := fun j hj => itl_getD _ _ _ _ hj
    have hcr : ∀ j, j < 2 * s.length → cr (itl (fs (matesOf m)) r (2 * s.length)) j = it (fs (matesOf m)) j r / 4 := fun j hj => by unfold cr; rw [hget j hj]; rfl
    refine ⟨⟨itl_length _ _ _, fun j hj => ?_, fun i j hi hj q => ?_, fun i j hi hj q => ?_⟩, hrl, ho, rfl, fun j hj => by unfold stN; rw [hget j hj]; rfl⟩
    · rw [hget j hj, hcr j hj]
      have := F.p.it_lt hrl j
      omega
    · rw [hcr _ (by omega), hcr _ (by omega)] at q
      by_cases e : i = j
      · exact e
      · have := strand_parity hv hrl ho (a := 2 * i) (b := 2 * j) (by omega) (by omega) (by omega) q
        omega
    · rw [hcr _ (by omega), hcr _ (by omega)] at q
      by_cases e : i = j
      · exact e
      · have := strand_parity hv hrl ho (a := 2 * i + 1) (b := 2 * j + 1) (by omega) (by omega) (by omega) q
        omega

theorem sgF_sg {s st : List Int} {n : Nat} (h : ∀ i, i < n → s.getD (cr st (2 * i)) 0 = 1 ∨ s.getD (cr st (2 * i)) 0 = -1) : sgnsB (sgF s st n) = true := by
  unfold sgnsB
  rw [List.all_eq_true]
  intro x hx
  obtain ⟨i, hi, rfl⟩ := List.mem_map.1 hx
  rcases h i (List.mem_range.1 hi) with e | e <;> rw [e] <;> rfl
/-- A diagram of one strand is what its code draws, with its own signs, up to the numbering. -/
theorem back_of {s m : List Int} {lp : Int} (hv : validB s m lp = true) (h1 : 1 ≤ s.length) (hc : compM s m lp ≤ 1) : lp = 0 ∧ ∃ st, strandsM s m lp = [st] ∧ KnotSt st s.length ∧ sgnsB (sgF s st s.length) = true ∧
    IsoF (matesOf (mkM (cdF st s.length) (sgF s st s.length))) (matesOf m) (gz (sgF s st s.length)) (gz s) s.length (fun i => cr st (2 * i)) := by
  obtain ⟨h0, st, r, hst, K, hr, ho, hper, hrun⟩ := knot_run hv h1 hc
  have F := bk_facts hv
  have hlm := F.lm
  have hsg : ∀ i, i < s.length → s.getD i 0 = 1 ∨ s.getD i 0 = -1 := fun i hi => sg_cases F.sg hi
  have hout : ∀ p, p < 2 * s.length → outB s (stN st p) = true := fun p hp => by rw [hrun p hp]; exact F.c.it F.p hr ho p
  have hls : sgnsB (sgF s st s.length) = true := sgF_sg fun i hi => hsg _ (K.rg (2 * i) (by omega)).2
  refine ⟨h0, st, hst, K, hls, back_iso K h1 F.le hsg hls hout (fun p q hp hq hne e => ?_) (fun h hh => ?_) (fun h hh => F.i.inv h (by omega)) (fun p hp => ?_) (fun p hp => ?_)⟩
  · refine out_slots (hout p hp) (hout q hq) e ?_
    rw [hrun p hp, hrun q hq]
    rcases Nat.lt_or_ge p q with h | h
    · exact F.p.it_ne hr h (by omega)
    · exact fun x => F.p.it_ne hr (by omega : q < p) (by omega) x.symm
  · have := F.i.lt h (by omega); omega
  · rw [hrun p hp]; have := F.p.it_lt hr p; omega
  · have e1 : it (fs (matesOf m)) (p + 1) r = trn (matesOf m (it (fs (matesOf m)) p r)) 2 := rfl
    have e2 : matesOf m (it (fs (matesOf m)) p r) = trn (it (fs (matesOf m)) (p + 1) r) 2 := by rw [e1, trn_two]
    rw [hrun p hp, e2, hrun _ (Nat.mod_lt _ (by omega)), succ_mod hp]
    by_cases e : p + 1 = 2 * s.length
    · rw [if_pos e, e, ← hper, (F.p.per_spec hr).1]; rfl
    · rw [if_neg e]

end Go.Proofs.Ytebliaclleplgaa

/- Plain mathematics: how many rows have a given length, told by the members; a bijection keeps it. -/
namespace Go.Proofs.Ytebliaclleplgaa

/-- Rows of length k, times k: the members of rows of that length. -/
theorem rows_count (xss : List (List Nat)) (sz : Nat → Nat) (h : ∀ r ∈ xss, ∀ x ∈ r, sz x = r.length) (k : Nat) : xss.countP (fun r => r.length == k) * k = xss.flatten.countP (fun x => sz x == k) := by
  induction xss with
  | nil => simp
  | cons r rs ih =>
    have h1 := ih fun r' hr x hx => h r' (by simp [hr]) x hx
    have h2 : r.countP (fun x => sz x == k) = if r.length == k then r.length else 0 := by
      have e : ∀ x ∈ r, (sz x == k) = (r.length == k) := fun x hx => by rw [h r (by simp) x hx]
      rw [List.countP_congr (q := fun _ => r.length == k) fun x hx => by rw [e x hx]]
      cases r.length == k <;> simp
    rw [List.flatten_cons, List.countP_append, List.countP_cons, Nat.add_mul, h1, h2]
    by_cases e : r.length = k
    · simp [e]; omega
    · have : (r.length == k) = false := by simp [e]
      simp [this]
/-- Two lists of rows whose members correspond, with the lengths of their rows, have as many rows of each length. -/
theorem rows_alike {xss yss : List (List Nat)} {sz sz' : Nat → Nat} {t : Nat → Nat} (h : ∀ r ∈ xss, ∀ x ∈ r, sz x = r.length) (h' : ∀ r ∈ yss, ∀ x ∈ r, sz' x = r.length) (hp : yss.flatten.Perm (xss.flatten.map t))
    (ht : ∀ x ∈ xss.flatten, sz' (t x) = sz x) (hx : ∀ r ∈ xss, r ≠ []) (hy : ∀ r ∈ yss, r ≠ []) (k : Nat) : xss.countP (fun r => r.length == k) = yss.countP (fun r => r.length == k) := by
  by_cases hk : k = 0
  · subst hk
    have z : ∀ zss : List (List Nat), (∀ r ∈ zss, r ≠ []) → zss.countP (fun r => r.length == 0) = 0 := fun zss hz => by
      rw [List.countP_eq_zero]
      intro r hr e
      exact hz r hr (by simpa using e)
    rw [z xss hx, z yss hy]
  · have h1 := rows_count xss sz h k
    have h2 := rows_count yss sz' h' k
    rw [hp.countP_eq, List.countP_map] at h2
    have h3 : List.countP ((fun x => sz' x == k) ∘ t) xss.flatten = xss.flatten.countP (fun x => sz x == k) := List.countP_congr fun x hx => by
      simp [ht x hx]
    rw [h3, ← h1] at h2
    exact (Nat.eq_of_mul_eq_mul_right (by omega) h2).symm
theorem length_alike {xss yss : List (List Nat)} (h : ∀ k, xss.countP (fun r => r.length == k) = yss.countP (fun r => r.length == k)) : xss.length = yss.length := by
  have hp : (xss.map List.length).Perm (yss.map List.length) := List.perm_iff_count.2 fun k => by
    have e : ∀ zss : List (List Nat), (zss.map List.length).count k = zss.countP (fun r => r.length == k) := fun zss => by
      rw [List.count, List.countP_map]; rfl
    rw [e, e, h k]
  have := hp.length_eq
  simpa using this

/-- A bijection of the numbers below N rearranges them. -/
theorem Perm.range {t : Nat → Nat} {N : Nat} (q : Perm t N) : ((List.range N).map t).Perm (List.range N) := by
  refine (List.perm_ext_iff_of_nodup ?_ List.nodup_range).2 fun x => ?_
  · refine List.pairwise_map.2 (List.Pairwise.imp_of_mem (R := (· ≠ ·)) (fun {a b} ha hb hab e => hab ?_) List.nodup_range)
    exact q.inj a b (by simpa using ha) (by simpa using hb) e
  · simp only [List.mem_map, List.mem_range]
    constructor
    · rintro ⟨y, hy, rfl⟩; exact q.lt y hy
    · intro hx
      obtain ⟨r, _, e⟩ := q.returns hx
      exact ⟨it t r x, q.it_lt hx r, e⟩
theorem Perm.onto {t : Nat → Nat} {N : Nat} (q : Perm t N) {x : Nat} (hx : x < N) : ∃ y, y < N ∧ t y = x := by
  obtain ⟨r, _, e⟩ := q.returns hx
  exact ⟨it t r x, q.it_lt hx r, e⟩
theorem filter_map_perm {t : Nat → Nat} {N : Nat} (q : Perm t N) {p p' : Nat → Bool} (hp : ∀ x, x < N → p' (t x) = p x) : ((List.range N).filter p').Perm (((List.range N).filter p).map t) := by
  have h1 := q.range.symm.filter p'
  rw [List.filter_map] at h1
  have h2 : (List.range N).filter (p' ∘ t) = (List.range N).filter p := List.filter_congr fun x hx => hp x (by simpa using hx)
  rw [h2] at h1
  exact h1

theorem it_conj {f g t : Nat → Nat} {N : Nat} (q : Perm f N) (hg : ∀ x, x < N → g (t x) = t (f x)) {x : Nat} (hx : x < N) (i : Nat) : it g i (t x) = t (it f i x) := by
  induction i with
  | zero => rfl
  | succ i ih => show g (it g i (t x)) = t (f (it f i x)); rw [ih, hg _ (q.it_lt hx i)]
theorem per_unique {f : Nat → Nat} {N h k : Nat} (q : Perm f N) (hh : h < N) (h0 : 0 < k) (h1 : it f k h = h) (h2 : ∀ i, 0 < i → i < k → it f i h ≠ h) : per f N h = k := by
  have hp := q.per_spec hh
  have := per_pos f N h
  rcases Nat.lt_trichotomy (per f N h) k with e | e | e
  · exact absurd hp.1 (h2 _ this e)
  · exact e
  · exact absurd h1 (hp.2.2 k h0 e)
theorem per_conj {f g t : Nat → Nat} {N : Nat} (qf : Perm f N) (qg : Perm g N) (qt : Perm t N) (hg : ∀ x, x < N → g (t x) = t (f x)) {x : Nat} (hx : x < N) : per g N (t x) = per f N x := by
  have hp := qf.per_spec hx
  refine per_unique qg (qt.lt x hx) (per_pos f N x) (by rw [it_conj qf hg hx, hp.1]) fun i h0 hi e => ?_
  rw [it_conj qf hg hx] at e
  exact hp.2.2 i h0 hi (qt.inj _ _ (qf.it_lt hx i) hx e)
theorem per_orb {f : Nat → Nat} {N x y : Nat} (q : Perm f N) (hx : x < N) (o : Orb f x y) : per f N y = per f N x := by
  obtain ⟨i, rfl⟩ := o
  have hp := q.per_spec hx
  have back : ∀ k, it f k (it f i x) = it f i (it f k x) := fun k => by rw [← it_add, ← it_add, Nat.add_comm]
  refine per_unique q (q.it_lt hx i) (per_pos f N x) (by rw [back, hp.1]) fun k h0 hk e => ?_
  rw [back] at e
  exact hp.2.2 k h0 hk (q.it_inj (q.it_lt hx k) hx i e)
/-- The cycles as rows of numbers. -/
def cycN (f : Nat → Nat) (N : Nat) (p : Nat → Bool) : List (List Nat) := (reprs f N p).map (cyc f N)
theorem cycN_size {f : Nat → Nat} {N : Nat} {p : Nat → Bool} (q : Perm f N) : ∀ r ∈ cycN f N p, ∀ x ∈ r, per f N x = r.length := by
  intro r hr x hx
  obtain ⟨h, hh, rfl⟩ := List.mem_map.1 hr
  have h1 := (reprs_mem.1 hh).1
  rw [per_orb q h1 ((q.mem_cyc h1 x).1 hx)]
  simp [cyc]
theorem cycN_ne {f : Nat → Nat} {N : Nat} {p : Nat → Bool} : ∀ r ∈ cycN f N p, r ≠ [] := by
  intro r hr e
  obtain ⟨h, _, rfl⟩ := List.mem_map.1 hr
  have := per_pos f N h
  have hl := congrArg List.length e
  simp [cyc] at hl
  omega
theorem cycN_lens (f : Nat → Nat) (N : Nat) (p : Nat → Bool) : (cycN f N p).map List.length = (cycL f N p N).map List.length := by
  rw [cycL_reprs]; unfold cycN
  rw [List.map_map, List.map_map]
  exact List.map_congr_left fun r _ => by simp [cyc, itl]
/-- Conjugate permutations have as many cycles of each length. -/
theorem cycN_conj {f g t : Nat → Nat} {N : Nat} {p p' : Nat → Bool} (qf : Perm f N) (qg : Perm g N) (qt : Perm t N) (hg : ∀ x, x < N → g (t x) = t (f x)) (hp : ∀ x, x < N → p' (t x) = p x) (cf : ClosedN f N p) (cg : ClosedN g N p') (k : Nat) :
    (cycN f N p).countP (fun r => r.length == k) = (cycN g N p').countP (fun r => r.length == k) :=
  rows_alike (t := t) (cycN_size qf) (cycN_size qg) ((flatN_perm qg cg).trans ((filter_map_perm qt hp).trans ((flatN_perm qf cf).symm.map t)))
    (fun _ hx => per_conj qf qg qt hg ((mem_flatN qf cf).1 hx).1) cycN_ne cycN_ne k
theorem reprs_conj {f g t : Nat → Nat} {N : Nat} {p p' : Nat → Bool} (qf : Perm f N) (qg : Perm g N) (qt : Perm t N) (hg : ∀ x, x < N → g (t x) = t (f x)) (hp : ∀ x, x < N → p' (t x) = p x) (cf : ClosedN f N p) (cg : ClosedN g N p') :
    (reprs f N p).length = (reprs g N p').length := by
  have := length_alike (cycN_conj qf qg qt hg hp cf cg)
  simpa [cycN] using this

/-- How many rows have the length k. -/
def many (xss : List (List Int)) (k : Nat) : Nat := xss.countP (fun r => r.length == k)
theorem many_lens {xss : List (List Int)} {yss : List (List Nat)} (h : yss.map List.length = xss.map List.length) (k : Nat) : many xss k = yss.countP (fun r => r.length == k) := by
  have e1 : many xss k = (xss.map List.length).countP (fun n => n == k) := by rw [List.countP_map]; rfl
  have e2 : yss.countP (fun r => r.length == k) = (yss.map List.length).countP (fun n => n == k) := by rw [List.countP_map]; rfl
  rw [e1, e2, h]
theorem many_conj {f g t : Nat → Nat} {N : Nat} {p p' : Nat → Bool} (qf : Perm f N) (qg : Perm g N) (qt : Perm t N) (hg : ∀ x, x < N → g (t x) = t (f x)) (hp : ∀ x, x < N → p' (t x) = p x) (cf : ClosedN f N p) (cg : ClosedN g N p') (k : Nat) :
    many (cycL f N p N) k = many (cycL g N p' N) k := by
  rw [many_lens (cycN_lens f N p) k, many_lens (cycN_lens g N p') k]
  exact cycN_conj qf qg qt hg hp cf cg k

/-- The components as rows of numbers. -/
def membN (F : Nat → Nat) (n l : Nat) : List Nat := (List.range n).filter (fun b => F b == l)
def graphN (F : Nat → Nat) (n : Nat) : List (List Nat) := (roots F n).map (membN F n)
theorem graphN_lens (F : Nat → Nat) (n : Nat) : (graphN F n).map List.length = (graphL F n).map List.length := by
  unfold graphN graphL
  rw [List.map_map, List.map_map]
  exact List.map_congr_left fun r _ => by simp [membN, memb]
theorem mem_membN {F : Nat → Nat} {n l x : Nat} : x ∈ membN F n l ↔ x < n ∧ F x = l := by unfold membN; simp [List.mem_filter]
theorem graphN_flat {F : Nat → Nat} {n : Nat} (hle : ∀ b, F b ≤ b) (hid : ∀ b, F (F b) = F b) : (graphN F n).flatten.Perm (List.range n) := by
  refine (List.perm_ext_iff_of_nodup ?_ List.nodup_range).2 fun x => ?_
  · refine List.pairwise_flatten.2 ⟨fun l hl => ?_, ?_⟩
    · obtain ⟨r, _, rfl⟩ := List.mem_map.1 hl
      exact List.Pairwise.filter _ List.nodup_range
    · refine List.pairwise_map.2 (List.Pairwise.imp (R := (· ≠ ·)) (fun {a b} hab x hx y hy e => hab ?_) (roots_nodup F n))
      rw [← (mem_membN.1 hx).2, ← (mem_membN.1 hy).2, e]
  · unfold graphN
    simp only [List.mem_flatten, List.mem_map, List.mem_range]
    constructor
    · rintro ⟨l, ⟨r, _, rfl⟩, hx⟩
      exact (mem_membN.1 hx).1
    · intro hx
      refine ⟨_, ⟨F x, ?_, rfl⟩, mem_membN.2 ⟨hx, rfl⟩⟩
      unfold roots
      rw [List.mem_filter, List.mem_range]
      exact ⟨by have := hle x; omega, by simp [hid]⟩
theorem many_graph {F G t : Nat → Nat} {n : Nat} (hF : ∀ b, F b ≤ b) (hF2 : ∀ b, F (F b) = F b) (hG : ∀ b, G b ≤ b) (hG2 : ∀ b, G (G b) = G b) (qt : Perm t n) (h : ∀ x y, x < n → y < n → (F x = F y ↔ G (t x) = G (t y))) (k : Nat) :
    many (graphL F n) k = many (graphL G n) k := by
  rw [many_lens (graphN_lens F n) k, many_lens (graphN_lens G n) k]
  have sz : ∀ (F : Nat → Nat), ∀ r ∈ graphN F n, ∀ x ∈ r, (membN F n (F x)).length = r.length := fun F r hr x hx => by
    obtain ⟨l, _, rfl⟩ := List.mem_map.1 hr
    rw [(mem_membN.1 hx).2]
  have ne : ∀ (F : Nat → Nat), ∀ r ∈ graphN F n, r ≠ [] := fun F r hr e => by
    obtain ⟨l, hl, rfl⟩ := List.mem_map.1 hr
    obtain ⟨h1, h2⟩ := roots_lt hl
    have : l ∈ membN F n l := mem_membN.2 ⟨h1, h2⟩
    rw [e] at this; cases this
  refine rows_alike (t := t) (sz := fun x => (membN F n (F x)).length) (sz' := fun x => (membN G n (G x)).length) (sz F) (sz G) ((graphN_flat hG hG2).trans (qt.range.symm.trans ((graphN_flat hF hF2).symm.map t))) (fun x hx => ?_) (ne F) (ne G) k
  have hxn : x < n := by have := (graphN_flat hF hF2).mem_iff.1 hx; simpa using this
  show (membN G n (G (t x))).length = (membN F n (F x)).length
  have h1 := filter_map_perm qt (p := fun b => F b == F x) (p' := fun b => G b == G (t x)) fun y hy => by
    rw [Bool.eq_iff_iff]
    simp only [beq_iff_eq]
    exact (h y x hy hxn).symm
  have := h1.length_eq
  rw [List.length_map] at this
  exact this

end Go.Proofs.Ytebliaclleplgaa
