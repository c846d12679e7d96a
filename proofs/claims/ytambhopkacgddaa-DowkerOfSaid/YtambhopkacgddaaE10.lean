import Derived.Test.YtambhopkacgddaaE09
import Derived.Test.YtambhopkacgddaaE08
/- Walk of the reference's Label. -/
namespace Go.Proofs.Ytambhopkacgddaa
open Go.RowKit

theorem OI.of_arr {w : World} {g n B : Nat} {L : Nat → Nat} (h : Arr w g 3 n (iv L)) (hB : B ≤ g) (hn : n ≤ 1000000) : OI w B (.slice (some ⟨g, 0, none⟩) n n) ((List.range n).map fun i => (L i : Int)) := by
  refine ⟨by simp [ints], .inr ⟨g, n, cellsN n (iv L), by simp, hB, h, by simp, by unfold maxLen; omega, by simp [cellsN], ?_⟩⟩
  simp [cellsN, ints]
  rw [List.take_of_length_le (by simp)]
  rfl

theorem lowStep_same (m l : Nat → Nat) (h : Nat) (e : h / 4 = m h / 4) : lowStep m l h = upd l (m h / 4) (min (l (h / 4)) (l (m h / 4))) := by
  funext i; unfold lowStep upd; rw [e]; split <;> rfl

set_option maxHeartbeats 3200000 in
set_option maxRecDepth 100000 in
theorem label_any (B : Option Addr) (nm cm n : Nat) (mate : List Int) (m : Nat → Nat) (w : World) (hm : RI w B nm mate) (hmm : Mates mate nm m) (hn : nm = 4 * n) (hN : nm ≤ 256) :
    Calls Try.prog 31 #[.slice B nm cm] w (CycPost w ((List.range n).map fun i => (labAt m nm n i : Int))) := by
  have hmk := fun W => make_one (P := Try.prog) Try.underlying22 Try.infoInt rfl n (by omega) (by omega) W
  have hb0 := below_alloc w (.cells (cellsN n fun _ => .int .i64 0) 3)
  have ha0 := Arr.new w n 3 (iv fun _ => 0)
  have HMM := Lib.hid hmm
  have HN := Lib.hid hn
  have hdiv : IntKind.i64.wrap ((nm : Int) / 4) = (n : Int) := by rw [IntWalk.i64_in _ (by omega)]; omega
  have hdiv' : (nm : Int) / 4 = (n : Int) := by omega
  clear hmm hn
  go_enter Try.func31, Try.ntmps31
  go_wp2
  have hz : (cellsN n fun _ => Value.int .i64 0) = cellsN n (iv fun _ => 0) := rfl
  rw [hz] at hb0 ⊢
  generalize w.alloc (.cells (cellsN n (iv fun _ => 0)) 3) = wA at ha0 hb0 ⊢
  clear hz hmk hdiv
  go_loopw [5] (fun i wr => ∃ k : Nat, k ≤ n ∧ i = .int .i64 k ∧ Below w.heap.size w wr ∧ Arr wr w.heap.size 3 n (iv (cutN k fun i => i))) (fun i _ => n - (intOf i).toNat)
  case atStart => exact ⟨0, by omega, rfl, hb0, ha0⟩
  case round =>
    obtain ⟨k, hk, rfl, hbr, har⟩ := hrel
    by_cases hlt : k < n
    · have hcell := har.cell k hlt
      have hfz := har.frozen k
      have hk0 : (0 : Int) ≤ (k : Int) := Int.natCast_nonneg _
      have hk1 : (k : Int) < (n : Int) := by omega
      have HZ := Lib.hid (show Arr (wr.setCell ⟨w.heap.size, k, none⟩ (.int .i64 (k : Nat))) w.heap.size 3 n (iv (cutN (k + 1) fun i => i)) from by have := har.seti k k; rwa [cutN_grow (fun i => i) k] at this)
      clear har ha0
      go_wp2
      go_roundw
      case rel => exact ⟨k + 1, by omega, by go_num, below_set hbr (Nat.le_refl _) _, HZ.out⟩
      case measure => simp [intOf]; omega
    · obtain rfl : k = n := by omega
      have har0 : Arr wr w.heap.size 3 k (iv (labAt m nm 0)) := har.congr fun i hi => by simp [iv, cutN, labAt, hi]
      obtain ⟨wB, hwB⟩ : ∃ wB : World, wB = wr := ⟨_, rfl⟩
      subst hwB
      clear hlt hk har ha0 hb0
      go_wp2
      go_loopw [6, 7, 8, 9, 10] (fun i _ _ _ _ wr => ∃ p : Nat, p ≤ k ∧ i = .int .i64 p ∧ Below w.heap.size w wr ∧ Arr wr w.heap.size 3 k (iv (labAt m nm p))) (fun i _ _ _ _ _ => k - (intOf i).toNat)
      case atStart => exact ⟨0, by omega, rfl, hbr, har0⟩
      case round =>
        obtain ⟨p, hp, rfl, hbp, hap⟩ := hrel
        by_cases hlt : p < k
        · obtain ⟨wC, hwC⟩ : ∃ wC : World, wC = wr := ⟨_, rfl⟩
          subst hwC
          have hap0 : Arr wC w.heap.size 3 k (iv (passAt m (labAt m nm p) 0)) := hap
          clear hap har0
          go_wp2
          go_loopw [7, 8, 9, 10] (fun i _ _ _ wr => ∃ q : Nat, q ≤ nm ∧ i = .int .i64 q ∧ Below w.heap.size w wr ∧ Arr wr w.heap.size 3 k (iv (passAt m (labAt m nm p) q))) (fun i _ _ _ _ => nm - (intOf i).toNat)
          case atStart => exact ⟨0, by omega, rfl, hbp, hap0⟩
          case round =>
            obtain ⟨q, hq, rfl, hbq, haq⟩ := hrel
            by_cases hql : q < nm
            · obtain ⟨b, off, rfl, hbb, hc⟩ := (hm.keep hbq).2 (by omega)
              have hcq := hc q hql
              obtain ⟨hmq, hml⟩ := HMM.out q hql
              rw [hmq] at hcq
              have hq4 : q / 4 < k := by have := HN.out; omega
              have hm4 : m q / 4 < k := by have := HN.out; omega
              have hca := haq.cell (q / 4) hq4
              have hcb := haq.cell (m q / 4) hm4
              have hfa := haq.frozen (q / 4)
              have hfb := haq.frozen (m q / 4)
              have hle1 := pass_le m (labAt m nm p) q (q / 4)
              have hle2 := pass_le m (labAt m nm p) q (m q / 4)
              have hle3 := lab_le m nm p (q / 4)
              have hle4 := lab_le m nm p (m q / 4)
              have hx : passAt m (labAt m nm p) q (q / 4) ≤ 1000 := by omega
              have hy : passAt m (labAt m nm p) q (m q / 4) ≤ 1000 := by omega
              have hstep : Arr ((wr.setCell ⟨w.heap.size, q / 4, none⟩ (.int .i64 (min (passAt m (labAt m nm p) q (q / 4)) (passAt m (labAt m nm p) q (m q / 4)) : Nat))).setCell ⟨w.heap.size, m q / 4, none⟩ (.int .i64 (min (passAt m (labAt m nm p) q (q / 4)) (passAt m (labAt m nm p) q (m q / 4)) : Nat))) w.heap.size 3 k (iv (passAt m (labAt m nm p) (q + 1))) :=
                (haq.seti (q / 4) _).seti (m q / 4) _
              have hcb2 := (haq.seti (q / 4) (min (passAt m (labAt m nm p) q (q / 4)) (passAt m (labAt m nm p) q (m q / 4)))).cell (m q / 4) hm4
              have hfb2 := (haq.seti (q / 4) (min (passAt m (labAt m nm p) q (q / 4)) (passAt m (labAt m nm p) q (m q / 4)))).frozen (m q / 4)
              have hb2 : Below w.heap.size w ((wr.setCell ⟨w.heap.size, q / 4, none⟩ (.int .i64 (min (passAt m (labAt m nm p) q (q / 4)) (passAt m (labAt m nm p) q (m q / 4)) : Nat))).setCell ⟨w.heap.size, m q / 4, none⟩ (.int .i64 (min (passAt m (labAt m nm p) q (q / 4)) (passAt m (labAt m nm p) q (m q / 4)) : Nat))) :=
                below_set (below_set hbq (Nat.le_refl _) _) (Nat.le_refl _) _
              generalize upd (passAt m (labAt m nm p) q) (q / 4) (min (passAt m (labAt m nm p) q (q / 4)) (passAt m (labAt m nm p) q (m q / 4))) (m q / 4) = z at hcb2
              have HZ := Lib.hid hstep
              have HB := Lib.hid hb2
              have H1 := Lib.hid hcb2
              have H2 := Lib.hid hfb2
              clear hstep hb2 hcb2 hfb2 haq hc hmq hle1 hle2 hle3 hle4 hap0
              have hca' : wr.cell? ⟨w.heap.size, q / 4, none⟩ = some (.int .i64 (passAt m (labAt m nm p) q (q / 4) : Nat)) := hca
              have hcb' : wr.cell? ⟨w.heap.size, m q / 4, none⟩ = some (.int .i64 (passAt m (labAt m nm p) q (m q / 4) : Nat)) := hcb
              clear hca hcb
              generalize passAt m (labAt m nm p) q (q / 4) = x at *
              generalize passAt m (labAt m nm p) q (m q / 4) = y at *
              generalize hmx : m q = mq at *
              clear hmx
              have hq0 : (0 : Int) ≤ (q : Int) := Int.natCast_nonneg _
              have hq1 : (q : Int) < (nm : Int) := by omega
              have hm0 : (0 : Int) ≤ (mq : Int) := Int.natCast_nonneg _
              have hx0 : (0 : Int) ≤ (x : Int) := Int.natCast_nonneg _
              have hy0 : (0 : Int) ≤ (y : Int) := Int.natCast_nonneg _
              have hq41 : (q : Int) / 4 < (k : Int) := by omega
              have hm41 : (mq : Int) / 4 < (k : Int) := by omega
              have hq40 : (0 : Int) ≤ (q : Int) / 4 := by omega
              have hm40 : (0 : Int) ≤ (mq : Int) / 4 := by omega
              have hw1 : IntKind.i64.wrap ((q : Int) / 4) = (q : Int) / 4 := IntWalk.i64_in _ (by omega)
              have hw2 : IntKind.i64.wrap ((mq : Int) / 4) = (mq : Int) / 4 := IntWalk.i64_in _ (by omega)
              have hcs : (x < y ∧ min x y = x) ∨ (x = y ∧ min x y = y) ∨ (y < x ∧ min x y = y) := by omega
              have hmn : min x y ≤ 1000 := by omega
              generalize min x y = lo at *
              go_wp2
              go_quiet (fail)
              go_wp2
              obtain ⟨v1, h1⟩ : ∃ v, ∀ N, ((wr.drewN N).setCell ⟨w.heap.size, q / 4, none⟩ (.int .i64 (lo : Nat))).cell? ⟨w.heap.size, mq / 4, none⟩ = some v := ⟨_, fun _ => H1.out⟩
              have h2 : ∀ N, ((wr.drewN N).setCell ⟨w.heap.size, q / 4, none⟩ (.int .i64 (lo : Nat))).frozen? ⟨w.heap.size, mq / 4, none⟩ = false := fun _ => H2.out
              clear H1 H2
              rcases hcs with ⟨hxy, rfl⟩ | ⟨rfl, rfl⟩ | ⟨hxy, rfl⟩
              all_goals
                go_quiet (fail)
                go_wp2
                go_roundw
                case rel => exact ⟨q + 1, by omega, by go_num, below_set (below_set (below_drewN hbq _) (Nat.le_refl _) _) (Nat.le_refl _) _, HZ.out⟩
                case measure => simp [intOf]; omega
            · obtain rfl : q = nm := by omega
              have hap1 : Arr wr w.heap.size 3 k (iv (labAt m q (p + 1))) := haq
              clear haq hql hq hap0
              have hp0 : (0 : Int) ≤ (p : Int) := Int.natCast_nonneg _
              go_wp2
              go_roundw
              case rel => exact ⟨p + 1, by omega, by go_num, hbq, hap1⟩
              case measure => simp [intOf]; omega
        · obtain rfl : p = k := by omega
          have HO := Lib.hid (OI.of_arr hap (Nat.le_refl _) (by have := HN.out; omega))
          clear hlt hp hap har0
          go_wp2
          go_ret
          exact ⟨_, rfl, HO.out, hbp⟩

end Go.Proofs.Ytambhopkacgddaa

/- Walk of the reference's Valid. -/
namespace Go.Proofs.Ytambhopkacgddaa
open Go.RowKit

theorem sgnsB_bad {xs : List Int} {k : Nat} (hk : k < xs.length) (h : sgB (xs.getD k 0) = false) : sgnsB xs = false := by
  cases e : sgnsB xs with
  | false => rfl
  | true => rw [(sgnsB_iff xs).1 e k hk] at h; cases h
theorem pairB_bad {signs mate : List Int} {k : Nat} (hk : k < mate.length) (h : pOK signs mate k = false) : pairB signs mate = false := by
  cases e : pairB signs mate with
  | false => rfl
  | true => rw [(pairB_iff _ _).1 e k hk] at h; cases h
theorem validB_lim {signs mate : List Int} {lp : Int} (h : limB signs.length mate.length lp = false) : validB signs mate lp = false := by simp [validB, h]
theorem validB_sg {signs mate : List Int} {lp : Int} (h : sgnsB signs = false) : validB signs mate lp = false := by simp [validB, h]
theorem validB_pair {signs mate : List Int} {lp : Int} (h : pairB signs mate = false) : validB signs mate lp = false := by simp [validB, h]
theorem validB_sph {signs mate : List Int} {lp : Int} (h : sphM mate signs.length = false) : validB signs mate lp = false := by simp [validB, h]

def heads (f : Nat → Nat) (N : Nat) : List Nat := (List.range N).filter (fst f N)
theorem cycL_heads (f : Nat → Nat) (N : Nat) : cycL f N (fun _ => true) N = (heads f N).map (fun h => itl f h (per f N h)) := by
  unfold cycL heads
  rw [List.filter_congr fun h _ => sel_true f N h]
theorem heads_length (f : Nat → Nat) (N : Nat) : (cycL f N (fun _ => true) N).length = (heads f N).length := by rw [cycL_heads, List.length_map]
theorem cntF_heads (F f : Nat → Nat) (N l : Nat) : (heads f N).countP (fun h => F (h / 4) == l) = cntF F f N N l := by
  unfold heads cntF
  rw [List.countP_filter]
  exact List.countP_congr fun h _ => by simp [and_comm]
theorem heads_el (f : Nat → Nat) (N i : Nat) (hi : i < (heads f N).length) : (cycL f N (fun _ => true) N).getD i [] = itl f ((heads f N).getD i 0) (per f N ((heads f N).getD i 0)) := by
  rw [cycL_heads]
  simp [List.getD, hi]
theorem heads_lt (f : Nat → Nat) (N i : Nat) (hi : i < (heads f N).length) : (heads f N).getD i 0 < N := by
  have e : (heads f N).getD i 0 = (heads f N)[i] := by simp [List.getD, hi]
  rw [e]
  have := List.getElem_mem hi
  exact List.mem_range.1 (List.mem_filter.1 this).1
theorem countP_take_succ (p : Nat → Bool) (l : List Nat) (i : Nat) (hi : i < l.length) : (l.take (i + 1)).countP p = (l.take i).countP p + if p (l.getD i 0) then 1 else 0 := by
  have e : l.getD i 0 = l[i] := by simp [List.getD, hi]
  rw [List.take_succ_eq_append_getElem hi, List.countP_append, e]
  simp [List.countP_cons]

set_option maxHeartbeats 6400000 in
set_option maxRecDepth 100000 in
theorem rvalid_main (r : Bool) (A B : Option Addr) (ns cs nm cm : Nat) (lp : Int) (signs mate : List Int) (w : World) (h : DV w A ns B nm signs mate) (h1 : ns ≤ 64) (h2 : nm = 4 * ns) (h3 : 0 ≤ lp) (h4 : lp ≤ 64) (hr : r = validB signs mate lp) :
    Calls Try.prog 12 #[dval A ns cs B nm cm lp] w fun e w' => e = .returned (.bool r) ∧ Below w.heap.size w w' := by
  have hd := DB.new w A ns cs B nm cm lp
  have hb0 := below_alloc w (dbox A ns cs B nm cm lp)
  have hls := h.hs.1
  have hlm := h.hm.1
  have HR := Lib.hid hr
  have HNM := Lib.hid h2
  have HLS := Lib.hid hls
  have HLM := Lib.hid hlm
  have H := Lib.hid (h.keep hb0)
  have hE : (nm : Int) = 4 * (ns : Int) := by omega
  have hE' : ((nm : Int) != 4 * (ns : Int)) = false := by simp [hE]
  clear hr h hls hlm h2 hE
  go_enter Try.func12, Try.ntmps12
  obtain ⟨d0, d1, d2, dlt⟩ := hd
  generalize hwA : w.alloc (dbox A ns cs B nm cm lp) = wA at hb0 H d0 d1 d2 dlt
  go_upto_region 4 with (fail)
  clear hwA
  have hnsI : (ns : Int) ≤ 64 := by omega
  have HE1 : Hid (∀ j, j < 0 → sgB (signs.getD j 0) = true) := fun j hj => absurd hj (by omega)
  go_wp2
  go_loop [4] (fun i => ∃ k : Nat, k ≤ ns ∧ i = .int .i64 k ∧ Hid (∀ j, j < k → sgB (signs.getD j 0) = true)) (fun i => ns - (intOf i).toNat)
  case atStart => exact ⟨0, by omega, rfl, HE1⟩
  case round =>
    obtain ⟨k, hk, rfl, hall⟩ := hrel
    by_cases hlt : k < ns
    · obtain ⟨b, off, rfl, hbb, hc⟩ := H.out.hs.2 (by omega)
      have hck := hc k hlt
      have hk0 : (0 : Int) ≤ (k : Int) := Int.natCast_nonneg _
      have hk1 : (k : Int) < (ns : Int) := by omega
      cases hsg : sgB (signs.getD k 0) with
      | true =>
        have hall' : Hid (∀ j, j < k + 1 → sgB (signs.getD j 0) = true) := fun j hj => by
          by_cases e : j = k
          · subst e; exact hsg
          · exact hall.out j (by omega)
        clear hc
        generalize signs.getD k 0 = x at hck hsg
        have hcase : x = 1 ∨ x = -1 := by unfold sgB at hsg; simpa using hsg
        clear hsg
        rcases hcase with rfl | rfl
        all_goals
          go_wp2
          go_round
          case rel => exact ⟨k + 1, by omega, by go_num, hall'⟩
          case measure => simp [intOf]; omega
      | false =>
        obtain rfl : r = false := HR.out.trans (validB_sg (sgnsB_bad (by rw [HLS.out]; exact hlt) hsg))
        clear hc HR
        generalize signs.getD k 0 = x at hck hsg
        have hx1 : (x != 1) = true := by unfold sgB at hsg; simp at hsg; simp [hsg.1]
        have hx2 : (x != -1) = true := by unfold sgB at hsg; simp at hsg; simp [hsg.2]
        clear hsg
        go_wp2
        go_ret
        exact ⟨rfl, hb0⟩
    · obtain rfl : k = ns := by omega
      have HSG := Lib.hid ((sgnsB_iff signs).2 (by rw [HLS.out]; exact hall.out))
      have HE2 : Hid (∀ j, j < 0 → pOK signs mate j = true) := fun j hj => absurd hj (by omega)
      clear hlt hk hall HE1
      go_wp2
      go_loopw [5, 6] (fun i _ wr => ∃ q : Nat, q ≤ nm ∧ i = .int .i64 q ∧ Below wA.heap.size wA wr ∧ Hid (∀ j, j < q → pOK signs mate j = true)) (fun i _ _ => nm - (intOf i).toNat)
      case atStart => exact ⟨0, by omega, rfl, Below.refl _ _, HE2⟩
      case round =>
        obtain ⟨q, hq, rfl, hbr, hall⟩ := hrel
        have d0' := (hbr.cell (p := ⟨w.heap.size, 0, none⟩) dlt).trans d0
        have d1' := (hbr.cell (p := ⟨w.heap.size, 1, none⟩) dlt).trans d1
        have hq0 : (0 : Int) ≤ (q : Int) := Int.natCast_nonneg _
        by_cases hlt : q < nm
        · obtain ⟨b, off, rfl, hbb, hc⟩ := (H.out.hm.keep hbr).2 (by omega)
          have hsr := H.out.hs.keep hbr
          have hrange := H.out.hrange
          have hcq : wr.cell? ⟨b, off + q, none⟩ = some (.int .i64 (mt mate q)) := hc q hlt
          have hq1 : (q : Int) < (nm : Int) := by omega
          have hq4 : q / 4 < k := by have := HNM.out; omega
          have hq2 : (q : Int) < 4 * (k : Int) := by have := HNM.out; omega
          cases hp : pOK signs mate q with
          | true =>
            have hall' : Hid (∀ j, j < q + 1 → pOK signs mate j = true) := fun j hj => by
              by_cases e : j = q
              · subst e; exact hp
              · exact hall.out j (by omega)
            obtain ⟨m, hmk, hmlt, hmm, hne⟩ := pOK_out hp HLM.out
            have hcm : wr.cell? ⟨b, off + m, none⟩ = some (.int .i64 (mt mate m)) := hc m hmlt
            rw [hmk] at hcq
            rw [hmm] at hcm
            have hm4 : m / 4 < k := by have := HNM.out; omega
            have hmq : ((m : Int) == (q : Int)) = false := by
              simp only [beq_eq_false_iff_ne, ne_eq]
              intro e
              have : m = q := by omega
              subst this; exact hne rfl
            have C1 := Lib.hid (rout_any A k cs signs q wr.drew hsr hq4 (by omega))
            have C2 := Lib.hid (rout_any A k cs signs m wr.drew hsr hm4 (by omega))
            have hne' : outB signs m = !(outB signs q) := by cases h1 : outB signs q <;> cases h2 : outB signs m <;> simp_all
            rw [hne'] at C2
            clear hne hne' hc hmk hmm hp hsr hrange
            generalize outB signs q = p at C1 C2
            have hm0 : (0 : Int) ≤ (m : Int) := Int.natCast_nonneg _
            have hm0' : decide ((m : Int) < 0) = false := by simp only [decide_eq_false_iff_not]; omega
            have hm1'' : decide (4 * (k : Int) ≤ (m : Int)) = false := by have := HNM.out; simp only [decide_eq_false_iff_not]; omega
            have hm1' : (m : Int) < (nm : Int) := by omega
            have hw4 : IntKind.i64.wrap (4 * (k : Int)) = 4 * (k : Int) := IntWalk.i64_in _ (by omega)
            go_wp2
            go_region_held3 (fun w' => w'.cell? ⟨w.heap.size, 0, none⟩ = some (.slice A k cs) ∧ w'.cell? ⟨w.heap.size, 1, none⟩ = some (.slice (some ⟨b, off, none⟩) nm cm) ∧ w'.cell? ⟨b, off + m, none⟩ = some (.int .i64 (q : Int)))
              (go_keep)
              (first
                | (go_at_call 30; ((with_reducible refine C1.out.mono ?_); rintro e w' ⟨rfl, rfl⟩))
                | (go_at_call 30; ((with_reducible refine C2.out.mono ?_); rintro e w' ⟨rfl, rfl⟩)))
            go_wp2
            go_roundw
            case rel => exact ⟨q + 1, by omega, by go_num, hbr.drew, hall'⟩
            case measure => simp [intOf]; omega
          | false =>
            obtain rfl : r = false := HR.out.trans (validB_pair (pairB_bad (by rw [HLM.out]; exact hlt) hp))
            have hcase := pOK_bad hp HLM.out
            have hr0 := hrange q hlt
            have hbw := hb0.trans (hbr.mono hb0.size)
            have hw4 : IntKind.i64.wrap (4 * (k : Int)) = 4 * (k : Int) := IntWalk.i64_in _ (by omega)
            clear hp HR hall
            rcases hcase with hneg | hbig | ⟨m, hmk, hmlt, hrest⟩
            · have hx1 : decide (mt mate q < 0) = true := by simp only [decide_eq_true_eq]; omega
              clear hc hrange hsr
              generalize mt mate q = x at hcq hneg hx1 hr0
              obtain ⟨hr1, hr2⟩ := hr0
              go_wp2
              go_quiet (fail)
              go_wp2
              go_ret
              exact ⟨rfl, by first | exact hbw.drew | exact below_drewN hbw _⟩
            · have hx1 : decide (mt mate q < 0) = false := by simp only [decide_eq_false_iff_not]; omega
              have hx2 : decide (4 * (k : Int) ≤ mt mate q) = true := by have := HNM.out; simp only [decide_eq_true_eq]; omega
              clear hc hrange hsr
              generalize mt mate q = x at hcq hbig hx1 hx2 hr0
              obtain ⟨hr1, hr2⟩ := hr0
              go_wp2
              go_quiet (fail)
              go_wp2
              go_ret
              exact ⟨rfl, by first | exact hbw.drew | exact below_drewN hbw _⟩
            · have hm0 : (0 : Int) ≤ (m : Int) := Int.natCast_nonneg _
              have hm0' : decide ((m : Int) < 0) = false := by simp only [decide_eq_false_iff_not]; omega
              have hm1'' : decide (4 * (k : Int) ≤ (m : Int)) = false := by have := HNM.out; simp only [decide_eq_false_iff_not]; omega
              have hm1' : (m : Int) < (nm : Int) := by omega
              have hm4 : m / 4 < k := by have := HNM.out; omega
              by_cases hmq : m = q
              · subst hmq
                rw [hmk] at hcq
                clear hc hrange hsr hrest hmk hr0
                go_wp2
                go_quiet (fail)
                go_wp2
                go_ret
                exact ⟨rfl, by first | exact hbw.drew | exact below_drewN hbw _⟩
              · have hmqb : ((m : Int) == (q : Int)) = false := by simp only [beq_eq_false_iff_ne, ne_eq]; omega
                have hcm : wr.cell? ⟨b, off + m, none⟩ = some (.int .i64 (mt mate m)) := hc m hmlt
                have hrm := hrange m hmlt
                rw [hmk] at hcq
                rcases hrest with hne | ⟨heq, hout⟩
                · have hx : (mt mate m != (q : Int)) = true := by simp [hne]
                  clear hc hrange hsr hmk hr0
                  generalize mt mate m = x at hcm hx hne hrm
                  go_wp2
                  go_quiet (fail)
                  go_wp2
                  go_ret
                  exact ⟨rfl, by first | exact hbw.drew | exact below_drewN hbw _⟩
                · rw [heq] at hcm
                  have C1 := Lib.hid (rout_any A k cs signs q wr.drew hsr hq4 (by omega))
                  have C2 := Lib.hid (rout_any A k cs signs m wr.drew hsr hm4 (by omega))
                  rw [hout] at C2
                  clear hout heq hc hmk hrange hsr hr0 hrm
                  generalize outB signs q = p at C1 C2
                  go_wp2
                  go_region_held3 (fun w' => w'.cell? ⟨w.heap.size, 0, none⟩ = some (.slice A k cs) ∧ w'.cell? ⟨w.heap.size, 1, none⟩ = some (.slice (some ⟨b, off, none⟩) nm cm) ∧ w'.cell? ⟨b, off + m, none⟩ = some (.int .i64 (q : Int)))
                    (go_keep)
                    (first
                      | (go_at_call 30; ((with_reducible refine C1.out.mono ?_); rintro e w' ⟨rfl, rfl⟩))
                      | (go_at_call 30; ((with_reducible refine C2.out.mono ?_); rintro e w' ⟨rfl, rfl⟩)))
                  go_wp2
                  go_ret
                  exact ⟨rfl, by first | exact hbw.drew | exact below_drewN hbw _⟩
        · obtain rfl : q = nm := by omega
          have HPB := Lib.hid ((pairB_iff signs mate).2 (by rw [HLM.out]; exact hall.out))
          have HM := Lib.hid (matesOf_mates HPB.out HLM.out)
          have HI := Lib.hid (show Invol (matesOf mate) (4 * k) from by have := matesOf_invol HPB.out HLM.out; rwa [HNM.out] at this)
          have HP := Lib.hid (show Perm (ff (matesOf mate)) q from by rw [HNM.out]; exact HI.out.perm 3)
          have hq256 : q ≤ 256 := by have := HNM.out; omega
          have hge : 4 * (k : Int) ≤ (q : Int) := by have := HNM.out; omega
          clear hlt hq hall HE2
          have CL := Lib.hid (label_any B q cm k mate (matesOf mate) wr (H.out.hm.keep hbr) HM.out HNM.out hq256)
          go_wp2_with (first
            | (go_at_call 31; ((with_reducible refine CL.out.mono ?_); rintro e w2 ⟨vl, rfl, hol, hb2⟩; have hbr2 := below_step hbr hb2; have d0'' := (hbr2.cell (p := ⟨w.heap.size, 0, none⟩) dlt).trans d0; have d1'' := (hbr2.cell (p := ⟨w.heap.size, 1, none⟩) dlt).trans d1; have CF := Lib.hid (rfaces_any B q cm mate (matesOf mate) w2 (H.out.hm.keep hbr2) HM.out HP.out hq256)))
            | (go_at_call 32; ((with_reducible refine CF.out.mono ?_); rintro e w3 ⟨vf, rfl, hof, hb3⟩)))
          have hbw3 := below_step (below_step hb0 hbr2) hb3
          have hol3 := hol.keep hb3
          obtain ⟨Af, cf, rfl, hrf⟩ := hof.ro
          rw [heads_length] at hrf
          have FL := Lib.hid (fun c (hc : c < k) => labAt_eq (m := matesOf mate) (F := ufLab (matesOf mate) q) HNM.out (fun h hh => (HM.out h hh).2) (ufLab_isLab (matesOf mate) q k) c hc)
          have HE3 : Hid (∀ j, j < 0 → labAt (matesOf mate) q k j = j → cntF (labAt (matesOf mate) q k) (ff (matesOf mate)) q q j = cntV (labAt (matesOf mate) q k) k j + 2) := fun j hj => absurd hj (by omega)
          clear hol hof d0'' d1'' d0' d1' hb2 hb3 hbr2 hbr CL
          have FC := Lib.hid (fun c (hc : c < k) => lab_le (matesOf mate) q k c)
          have HLAB := Lib.hid (show ufLab (matesOf mate) q = ufLab (matesOf mate) q from rfl)
          generalize hF : labAt (matesOf mate) q k = F at *
          clear hF HLAB
          have hlenI : ((List.range k).map fun i => (F i : Int)).length = k := by simp
          have hgetI : ∀ c, c < k → ((List.range k).map fun i => (F i : Int)).getD c 0 = (F c : Int) := fun c hc => by simp [List.getD, hc]
          have HG := Lib.hid hgetI
          have HLI := Lib.hid hlenI
          have HOL := Lib.hid hol3
          have HRF := Lib.hid hrf
          rw [heads_length]
          have hnf : (heads (ff (matesOf mate)) q).length ≤ 256 := by rw [← heads_length]; exact Nat.le_trans (cycL_length _ _ _ _) hq256
          clear hlenI hgetI hol3 hrf
          go_loop [9, 10, 11, 12, 13] (fun i _ _ _ _ => ∃ c : Nat, c ≤ k ∧ i = .int .i64 c ∧ Hid (∀ j, j < c → F j = j → cntF F (ff (matesOf mate)) q q j = cntV F k j + 2)) (fun i _ _ _ _ => k - (intOf i).toNat)
          case atStart => exact ⟨0, by omega, rfl, HE3⟩
          case round =>
            obtain ⟨c, hc, rfl, hall⟩ := hrel
            have hc0 : (0 : Int) ≤ (c : Int) := Int.natCast_nonneg _
            by_cases hlt : c < k
            · obtain ⟨gl, cl, rfl⟩ := HOL.out.form_pos HLI.out (by omega)
              have hcell : ∀ b, b < k → w3.cell? ⟨gl, b, none⟩ = some (.int .i64 (F b : Nat)) := fun b hb => by
                rw [HOL.out.cell b (by rw [HLI.out]; exact hb), HG.out b hb]
              have HCE := Lib.hid hcell
              have hcc := hcell c hlt
              have hFle : F c ≤ c := FC.out c hlt
              clear hcell
              have hc1 : (c : Int) < (k : Int) := by omega
              by_cases hFc : F c = c
              · rw [hFc] at hcc
                have HFc := Lib.hid hFc
                clear hFc hFle
                go_wp2
                go_loop [10, 12] (fun v i => ∃ b : Nat, b ≤ k ∧ i = .int .i64 b ∧ v = .int .i64 (cntV F b c : Nat)) (fun _ i => k - (intOf i).toNat)
                case atStart => exact ⟨0, by omega, rfl, rfl⟩
                case round =>
                  obtain ⟨b, hb, rfl, rfl⟩ := hrel
                  have hb0' : (0 : Int) ≤ (b : Int) := Int.natCast_nonneg _
                  by_cases hbl : b < k
                  · have hcb := HCE.out b hbl
                    have hb1 : (b : Int) < (k : Int) := by omega
                    have hvle := cntV_le F b c
                    have hsucc := cntV_succ F b c
                    by_cases hFb : F b = c
                    · rw [hFb] at hcb
                      have HS := Lib.hid (show cntV F (b + 1) c = cntV F b c + 1 from by rw [hsucc, hFb]; simp)
                      clear hsucc hFb
                      generalize cntV F b c = v at *
                      have hv0 : (0 : Int) ≤ (v : Int) := Int.natCast_nonneg _
                      go_wp2
                      go_round
                      case rel => exact ⟨b + 1, by omega, by go_num, by rw [HS.out]; go_num⟩
                      case measure => simp [intOf]; omega
                    · have hne : ((F b : Int) == (c : Int)) = false := by simp only [beq_eq_false_iff_ne, ne_eq]; omega
                      have HS := Lib.hid (show cntV F (b + 1) c = cntV F b c from by rw [hsucc]; simp [hFb])
                      clear hsucc hFb
                      generalize cntV F b c = v at *
                      generalize F b = x at *
                      go_wp2
                      go_round
                      case rel => exact ⟨b + 1, by omega, by go_num, by rw [HS.out]⟩
                      case measure => simp [intOf]; omega
                  · obtain rfl : k = b := by omega
                    go_wp2
                    go_loop [11, 13] (fun f i => ∃ e : Nat, e ≤ (heads (ff (matesOf mate)) q).length ∧ i = .int .i64 e ∧ f = .int .i64 (((heads (ff (matesOf mate)) q).take e).countP (fun h => F (h / 4) == c) : Nat)) (fun _ i => (heads (ff (matesOf mate)) q).length - (intOf i).toNat)
                    case atStart => exact ⟨0, by omega, rfl, rfl⟩
                    case round =>
                      obtain ⟨e, he, rfl, rfl⟩ := hrel
                      have he0 : (0 : Int) ≤ (e : Int) := Int.natCast_nonneg _
                      by_cases hel : e < (heads (ff (matesOf mate)) q).length
                      · have he1 : (e : Int) < ((heads (ff (matesOf mate)) q).length : Int) := by omega
                        obtain ⟨bf, of, rfl, hbf⟩ := HRF.out.at_ (by omega)
                        obtain ⟨A', n', c', hsl, hri⟩ := HRF.out.el e hel
                        have hhd := heads_lt (ff (matesOf mate)) q e hel
                        rw [heads_el _ _ _ hel] at hri
                        have hsucc := countP_take_succ (fun h => F (h / 4) == c) (heads (ff (matesOf mate)) q) e hel
                        generalize (heads (ff (matesOf mate)) q).getD e 0 = hd at *
                        have hpos := per_pos (ff (matesOf mate)) q hd
                        have hn' : n' = per (ff (matesOf mate)) q hd := by rw [← hri.1, itl_length]
                        obtain ⟨bb, ob, rfl, _, hcb⟩ := hri.2 (by omega)
                        have hc0' := hcb 0 (by omega)
                        rw [itl_getD _ _ _ _ hpos] at hc0'
                        have hit0 : it (ff (matesOf mate)) 0 hd = hd := rfl
                        rw [hit0] at hc0'
                        simp only [Nat.add_zero] at hc0'
                        have hn1 : (0 : Int) < (n' : Int) := by omega
                        have hn1' : 0 < n' := by omega
                        have hd4 : hd / 4 < k := by have := HNM.out; omega
                        have hcf := HCE.out (hd / 4) hd4
                        have hhd0 : (0 : Int) ≤ (hd : Int) := Int.natCast_nonneg _
                        have hd41 : (hd : Int) / 4 < (k : Int) := by omega
                        have hw1 : IntKind.i64.wrap ((hd : Int) / 4) = (hd : Int) / 4 := IntWalk.i64_in _ (by omega)
                        have hfle : ((heads (ff (matesOf mate)) q).take e).countP (fun h => F (h / 4) == c) ≤ e := Nat.le_trans List.countP_le_length (by simp; omega)
                        clear hri hcb hn' hit0 hpos
                        by_cases hFb : F (hd / 4) = c
                        · rw [hFb] at hcf
                          have HS := Lib.hid (show ((heads (ff (matesOf mate)) q).take (e + 1)).countP (fun h => F (h / 4) == c) = ((heads (ff (matesOf mate)) q).take e).countP (fun h => F (h / 4) == c) + 1 from by rw [hsucc, hFb]; simp)
                          clear hsucc hFb
                          generalize ((heads (ff (matesOf mate)) q).take e).countP (fun h => F (h / 4) == c) = f at *
                          have hf0 : (0 : Int) ≤ (f : Int) := Int.natCast_nonneg _
                          go_wp2
                          go_round
                          case rel => exact ⟨e + 1, by omega, by go_num, by rw [HS.out]; go_num⟩
                          case measure => simp [intOf]; omega
                        · have hne : ((F (hd / 4) : Int) == (c : Int)) = false := by simp only [beq_eq_false_iff_ne, ne_eq]; omega
                          have HS := Lib.hid (show ((heads (ff (matesOf mate)) q).take (e + 1)).countP (fun h => F (h / 4) == c) = ((heads (ff (matesOf mate)) q).take e).countP (fun h => F (h / 4) == c) from by rw [hsucc]; simp [hFb])
                          clear hsucc hFb
                          generalize ((heads (ff (matesOf mate)) q).take e).countP (fun h => F (h / 4) == c) = f at *
                          generalize F (hd / 4) = x at *
                          go_wp2
                          go_round
                          case rel => exact ⟨e + 1, by omega, by go_num, by rw [HS.out]⟩
                          case measure => simp [intOf]; omega
                      · have hee : e = (heads (ff (matesOf mate)) q).length := by omega
                        subst hee
                        have hcnt : ((heads (ff (matesOf mate)) q).take (heads (ff (matesOf mate)) q).length).countP (fun h => F (h / 4) == c) = cntF F (ff (matesOf mate)) q q c := by
                          rw [List.take_length]; exact cntF_heads F (ff (matesOf mate)) q c
                        have hv1 := cntV_le F k c
                        have hv2 := cntF_le F (ff (matesOf mate)) q q c
                        rw [hcnt]
                        have HCN := Lib.hid (show Hid (F c = c) from HFc)
                        by_cases heq : cntF F (ff (matesOf mate)) q q c = cntV F k c + 2
                        · have hall' : Hid (∀ j, j < c + 1 → F j = j → cntF F (ff (matesOf mate)) q q j = cntV F k j + 2) := fun j hj e => by
                            by_cases e' : j = c
                            · subst e'; exact heq
                            · exact hall.out j (by omega) e
                          rw [heq]
                          clear heq hcnt hel he hall hv2
                          generalize cntV F k c = v at *
                          have hv0 : (0 : Int) ≤ (v : Int) := Int.natCast_nonneg _
                          go_wp2
                          go_round
                          case rel => exact ⟨c + 1, by omega, by go_num, hall'⟩
                          case measure => simp [intOf]; omega
                        · have hsf : sphM mate signs.length = false := by
                            cases hs : sphM mate signs.length with
                            | false => rfl
                            | true =>
                              unfold sphM at hs
                              rw [HLM.out, HLS.out] at hs
                              have hs2 : sphB F (ff (matesOf mate)) q k = true := by
                                rw [← hs, HNM.out]
                                exact sphB_congr fun x hx => by have := FL.out x hx; rw [HNM.out] at this; exact this
                              have := (sphB_iff _ _ _ _).1 hs2 c hlt
                              rw [HFc.out] at this
                              exact absurd this heq
                          obtain rfl : r = false := HR.out.trans (validB_sph hsf)
                          have hbne : ((cntF F (ff (matesOf mate)) q q c : Int) != (cntV F k c : Int) + 2) = true := by simp only [bne_iff_ne, ne_eq]; omega
                          clear heq hcnt hel he hall HR hsf
                          generalize cntF F (ff (matesOf mate)) q q c = f at *
                          generalize cntV F k c = v at *
                          have hv0 : (0 : Int) ≤ (v : Int) := Int.natCast_nonneg _
                          go_wp2
                          go_ret
                          exact ⟨rfl, hbw3⟩
              · have hne : ((F c : Int) != (c : Int)) = true := by simp only [bne_iff_ne, ne_eq]; omega
                have hall' : Hid (∀ j, j < c + 1 → F j = j → cntF F (ff (matesOf mate)) q q j = cntV F k j + 2) := fun j hj e => by
                  by_cases e' : j = c
                  · subst e'; exact absurd e hFc
                  · exact hall.out j (by omega) e
                clear hFc hFle
                generalize F c = x at *
                go_wp2
                go_round
                case rel => exact ⟨c + 1, by omega, by go_num, hall'⟩
                case measure => simp [intOf]; omega
            · obtain rfl : c = k := by omega
              have hst : sphM mate signs.length = true := by
                unfold sphM
                rw [HLM.out, HLS.out]
                have hs2 : sphB F (ff (matesOf mate)) q c = true := (sphB_iff _ _ _ _).2 fun x hx => by
                  have hx1 := FL.out x hx
                  have hlab := ufLab_isLab (matesOf mate) q c
                  obtain ⟨hl1, hl2⟩ := hlab.1 x hx
                  have hFx : F x < c := by rw [hx1]; omega
                  have hid : F (F x) = F x := by rw [FL.out (F x) hFx, hx1]; exact (hlab.conn hl2).symm
                  exact hall.out (F x) hFx hid
                rw [← hs2, HNM.out]
                exact (sphB_congr fun x hx => by have := FL.out x hx; rw [HNM.out] at this; exact this.symm)
              have hvt : validB signs mate lp = true := by
                unfold validB
                rw [hst, HSG.out, HPB.out, HLS.out, HLM.out]
                simp [limB, h1, h3, h4, HNM.out]
              obtain rfl : r = true := HR.out.trans hvt
              clear hlt hc hall HR hst hvt
              go_wp2
              go_ret
              exact ⟨rfl, hbw3⟩

end Go.Proofs.Ytambhopkacgddaa

/- The reference's Valid, for every diagram; Out. -/
namespace Go.Proofs.Ytambhopkacgddaa
open Go.RowKit

set_option maxHeartbeats 1600000 in
set_option maxRecDepth 100000 in
theorem rvalid_lim (A B : Option Addr) (ns cs nm cm : Nat) (lp : Int) (w : World) (hns : ns ≤ 100000000000000) (hnm : nm ≤ 100000000000000) (hl : limB ns nm lp = false) :
    Calls Try.prog 12 #[dval A ns cs B nm cm lp] w fun e w' => e = .returned (.bool false) ∧ Below w.heap.size w w' := by
  by_cases h1 : ns ≤ 64
  · by_cases h2 : nm = 4 * ns
    · subst h2
      by_cases h3 : 0 ≤ lp
      · have h4' : 64 < lp := by
          by_cases h4 : lp ≤ 64
          · simp [limB, *] at hl
          · omega
        clear hl
        go_enter Try.func12, Try.ntmps12
        go_wp2
        go_ret
        exact ⟨rfl, below_alloc _ _⟩
      · have h4' : lp < 0 := by omega
        clear hl h3
        go_enter Try.func12, Try.ntmps12
        go_wp2
        go_ret
        exact ⟨rfl, below_alloc _ _⟩
    · have h4 : ((nm : Int) != 4 * (ns : Int)) = true := by simp only [bne_iff_ne, ne_eq]; omega
      clear hl h2
      go_enter Try.func12, Try.ntmps12
      go_wp2
      go_ret
      exact ⟨rfl, below_alloc _ _⟩
  · have h4' : 64 < ns := by omega
    clear hl h1
    go_enter Try.func12, Try.ntmps12
    go_wp2
    go_ret
    exact ⟨rfl, below_alloc _ _⟩

theorem DV.rvalid {w : World} {A B : Option Addr} {ns nm : Nat} {signs mate : List Int} (h : DV w A ns B nm signs mate) (cs cm : Nat) (lp : Int) (r : Bool) (hr : validB signs mate lp = r) :
    Calls Try.prog 12 #[dval A ns cs B nm cm lp] w fun e w' => e = .returned (.bool r) ∧ Below w.heap.size w w' := by
  cases hl : limB ns nm lp with
  | true =>
    obtain ⟨l1, l2, l3, l4⟩ := limB_out hl
    exact rvalid_main r A B ns cs nm cm lp signs mate w h l1 l2 l3 l4 hr.symm
  | false =>
    have : r = false := by
      rw [← hr]; exact validB_lim (by rw [h.hs.1, h.hm.1]; exact hl)
    subst this
    exact rvalid_lim A B ns cs nm cm lp w h.hns h.hnm hl


end Go.Proofs.Ytambhopkacgddaa

/- Walk: knot, and the law DowkerOf. -/
namespace Go.Proofs.Ytambhopkacgddaa
open Go.ChangeShapes Go.WideShapes Go.ChangeAt Go.RowKit Go.Joins

theorem mt_in {m : List Int} (h : ∀ z ∈ m, inI z) (j : Nat) : -9223372036854775808 ≤ mt m j ∧ mt m j ≤ 9223372036854775807 := inL_of h j
theorem dv_small {w : World} {A B : Option Addr} {ns nm : Nat} {s m : List Int} (hs : RI w A ns s) (hm : RI w B nm m) (hmI : ∀ z ∈ m, inI z) (h1 : ns ≤ 1000) (h2 : nm ≤ 100000000000000) : DV w A ns B nm s m :=
  ⟨hs, hm, by omega, h2, fun j _ => mt_in hmI j⟩
theorem strands_call {W : World} {A B : Option Addr} {ns nm : Nat} {s m : List Int} {lp : Int} (cs cm : Nat) (h : DV W A ns B nm s m) (hv : validB s m lp = true) :
    Calls Try.prog 33 #[dval A ns cs B nm cm lp] W (CycsPost W (strandsM s m lp)) := by
  have F := bk_facts hv
  have hlm := h.hm.1
  have hls := h.hs.1
  have hl := F.lm
  have hle := F.le
  have hmm := matesOf_mates F.pr hlm
  have hp : Perm (fs (matesOf m)) nm := by rw [← hlm]; exact F.p
  have e : strandsM s m lp = cycL (fs (matesOf m)) nm (outB s) nm := by unfold strandsM; rw [if_pos hv, hlm]
  rw [e]
  exact rstrands_any A B ns cs nm cm lp s m (matesOf m) W h.hs (by omega) h.hm hmm hp (by omega) (fun x hx ho => out_closed F.sg F.pr hlm hls (by omega) x hx ho)

set_option maxHeartbeats 3200000 in
set_option maxRecDepth 100000 in
theorem knot_r (r : Bool) (A B : Option Addr) (ns cs nm cm : Nat) (lp most : Int) (s m : List Int) (w : World) (h : DV w A ns B nm s m) (hv : validB s m lp = true) (h1 : 1 ≤ ns) (h2 : (ns : Int) ≤ most) (hr : r = decide (lp = 0 ∧ (strandsM s m lp).length = 1)) :
    Calls Try.prog 13 #[dval A ns cs B nm cm lp, .int .i64 most] w fun e w' => e = .returned (.bool r) ∧ Below w.heap.size w w' := by
  have hd := DB.new w A ns cs B nm cm lp
  obtain ⟨d0, d1, d2, dlt⟩ := hd
  have hb0 := below_alloc w (dbox A ns cs B nm cm lp)
  have HDV := Lib.hid (h.keep hb0)
  have CV := Lib.hid (HDV.out.rvalid cs cm lp true hv)
  have CS : ∀ W, Below (w.alloc (dbox A ns cs B nm cm lp)).heap.size (w.alloc (dbox A ns cs B nm cm lp)) W → Hid (Calls Try.prog 33 #[dval A ns cs B nm cm lp] W (CycsPost W (strandsM s m lp))) := fun W hb => strands_call cs cm (HDV.out.keep hb) hv
  have hlen := strandsM_le (signs := s) (mate := m) (lp := lp)
  have hml : m.length ≤ 256 := by have F := bk_facts hv; have := F.lm; have := F.le; omega
  have hn1 : 1 ≤ (ns : Int) := by omega
  have HR := Lib.hid hr
  obtain ⟨xss, hx⟩ : ∃ xss, strandsM s m lp = xss := ⟨_, rfl⟩
  simp only [hx] at CS hlen
  rw [hx] at HR
  have hl0 : (0 : Int) ≤ (xss.length : Int) := Int.natCast_nonneg _
  have hl1 : (xss.length : Int) ≤ 256 := by omega
  clear h hv hr hx hlen hml
  by_cases hz : lp = 0
  · have hz' : (lp == 0) = true := by simpa using hz
    have HZ := Lib.hid hz
    have HB : Hid (((xss.length : Int) == 1) = r) := Lib.hid (by
      rw [HR.out, HZ.out]
      by_cases q : xss.length = 1
      · simp [q]
      · have : ((xss.length : Int) == 1) = false := by simp; omega
        rw [this]; simp [q])
    clear hz
    go_enter Try.func13, Try.ntmps13
    go_wp2_with (first
      | (go_at_call 12; ((with_reducible refine CV.out.mono ?_); rintro e w1 ⟨rfl, hb1⟩; have e0 := (hb1.cell (p := ⟨w.heap.size, 0, none⟩) dlt).trans d0; have e1 := (hb1.cell (p := ⟨w.heap.size, 1, none⟩) dlt).trans d1; have e2 := (hb1.cell (p := ⟨w.heap.size, 2, none⟩) dlt).trans d2))
      | (go_at_call 33; ((with_reducible refine (CS _ hb1).out.mono ?_); rintro e w2 ⟨v2, rfl, ho, hb2⟩; obtain ⟨A2, c2, rfl, hro⟩ := ho.ro)))
    go_ret
    exact ⟨ret_bool HB.out, below_step (below_step hb0 hb1) hb2⟩
  · have hz' : (lp == 0) = false := by simpa using hz
    have HB : Hid (false = r) := Lib.hid (by rw [HR.out]; simp [hz])
    clear hz
    go_enter Try.func13, Try.ntmps13
    go_wp2_with (first
      | (go_at_call 12; ((with_reducible refine CV.out.mono ?_); rintro e w1 ⟨rfl, hb1⟩; have e0 := (hb1.cell (p := ⟨w.heap.size, 0, none⟩) dlt).trans d0; have e1 := (hb1.cell (p := ⟨w.heap.size, 1, none⟩) dlt).trans d1; have e2 := (hb1.cell (p := ⟨w.heap.size, 2, none⟩) dlt).trans d2))
      | (go_at_call 33; ((with_reducible refine (CS _ hb1).out.mono ?_); rintro e w2 ⟨v2, rfl, ho, hb2⟩; obtain ⟨A2, c2, rfl, hro⟩ := ho.ro)))
    go_ret
    exact ⟨ret_bool HB.out, below_step hb0 hb1⟩
theorem knot_iff {s m : List Int} {lp : Int} (hv : validB s m lp = true) (h1 : 1 ≤ s.length) : (lp = 0 ∧ (strandsM s m lp).length = 1) ↔ ¬ 1 < compM s m lp := by
  constructor
  · rintro ⟨a, b⟩; rw [compM_add hv, b, a]; decide
  · intro h
    obtain ⟨a, st, b, _⟩ := knot_one hv h1 (by omega)
    exact ⟨a, by rw [b]; rfl⟩
theorem of_e (A B : Option Addr) (ns cs nm cm : Nat) (lp : Int) (s m : List Int) (W : World) (h : DV W A ns B nm s m) (E : Int) (L : List Int) (he : ofE s m lp = E) (hl : ofL s m lp = L) :
    Calls Try.prog 11 #[dval A ns cs B nm cm lp] W fun e w' => ∃ A' c, e = .returned (.tuple #[.slice A' L.length c, .int .i64 E]) ∧ RI w' A' L.length L ∧ Below W.heap.size W w' := by
  refine (dof_any A B ns cs nm cm lp s m W h).mono ?_
  rintro e w' ⟨A', n', c, rfl, h1, hb⟩
  rw [hl] at h1
  obtain rfl := h1.1
  exact ⟨A', c, by rw [he], h1, hb⟩

set_option maxHeartbeats 6400000 in
set_option maxRecDepth 100000 in
theorem dkof_walk (A B : Option Addr) (ns cs nm cm : Nat) (lp : Int) (s m : List Int) (w : World) (hs : RI w A ns s) (hm : RI w B nm m) (hns : ns ≤ 9223372036854775807) (hnm : nm ≤ 9223372036854775807) (hmI : ∀ z ∈ m, inI z) :
    Calls Try.prog 3 #[dval A ns cs B nm cm lp] w fun e w' => e = .returned (.bool true) ∧ Below w.heap.size w w' := by
  have hd := DB.new w A ns cs B nm cm lp
  have hb0 := below_alloc w (dbox A ns cs B nm cm lp)
  have CA := Lib.hid (dawake_any (w.alloc (dbox A ns cs B nm cm lp)))
  have HD := Lib.hid hd
  obtain ⟨d0, d1, d2, dlt⟩ := hd
  by_cases h14 : 14 < ns
  · have h14' : 14 < (ns : Int) := by omega
    clear hs hm hmI hns hnm h14
    go_enter Try.func3, Try.ntmps3
    go_wp2_with ((with_reducible refine CA.out.mono ?_); rintro e w1 ⟨rfl, hb1⟩; have e0 := (hb1.cell (p := ⟨w.heap.size, 0, none⟩) dlt).trans d0)
    go_ret
    exact ⟨rfl, below_step hb0 hb1⟩
  · by_cases h60 : 60 < nm
    · have h14' : ¬ 14 < (ns : Int) := by omega
      have h60' : 60 < (nm : Int) := by omega
      clear hs hm hmI hns hnm h14 h60
      go_enter Try.func3, Try.ntmps3
      go_wp2_with ((with_reducible refine CA.out.mono ?_); rintro e w1 ⟨rfl, hb1⟩; have e0 := (hb1.cell (p := ⟨w.heap.size, 0, none⟩) dlt).trans d0; have e1 := (hb1.cell (p := ⟨w.heap.size, 1, none⟩) dlt).trans d1)
      go_ret
      exact ⟨rfl, below_step hb0 hb1⟩
    · have h14' : ¬ 14 < (ns : Int) := by omega
      have h60' : ¬ 60 < (nm : Int) := by omega
      have H := Lib.hid ((dv_small hs hm hmI (by omega) (by omega)).keep hb0)
      have hls := hs.1
      have hkp : ∀ {W W' : World}, Below W.heap.size W W' → DV W A ns B nm s m → DV W' A ns B nm s m := fun hb h => h.keep hb
      clear hs hm hmI hns hnm h14
      cases hv : validB s m lp with
      | false =>
        have CO : ∀ W, DV W A ns B nm s m → Hid (Calls Try.prog 11 #[dval A ns cs B nm cm lp] W fun e w' => ∃ A' c, e = .returned (.tuple #[.slice A' 0 c, .int .i64 1]) ∧ RI w' A' 0 [] ∧ Below W.heap.size W w') := fun W h => of_e A B ns cs nm cm lp s m W h 1 [] (by simp [ofE, hv]) (by simp [ofL, hv])
        have CV : ∀ W, DV W A ns B nm s m → Hid (Calls Try.prog 12 #[dval A ns cs B nm cm lp] W fun e w' => e = .returned (.bool false) ∧ Below W.heap.size W w') := fun W h => h.rvalid cs cm lp false hv
        clear hv hls h60
        go_enter Try.func3, Try.ntmps3
        go_wp2_with (first
          | (go_at_call 10; ((with_reducible refine CA.out.mono ?_); rintro e w1 ⟨rfl, hb1⟩; have H1 := Lib.hid (H.out.keep hb1); have HD1 := Lib.hid (HD.out.keep hb1); obtain ⟨e0, e1, e2, elt⟩ := HD1.out))
          | (go_at_call 11; ((with_reducible refine (CO _ H1.out).out.mono ?_); rintro e w2 ⟨A2, c2, rfl, hr2, hb2⟩; have H2 := Lib.hid (H1.out.keep hb2); have HD2 := Lib.hid (HD1.out.keep hb2); obtain ⟨f0, f1, f2, flt⟩ := HD2.out))
          | (go_at_call 12; ((with_reducible refine (CV _ H2.out).out.mono ?_); rintro e w3 ⟨rfl, hb3⟩)))
        go_ret
        exact ⟨rfl, below_step (below_step (below_step hb0 hb1) hb2) hb3⟩
      | true =>
        have CV : ∀ W, DV W A ns B nm s m → Hid (Calls Try.prog 12 #[dval A ns cs B nm cm lp] W fun e w' => e = .returned (.bool true) ∧ Below W.heap.size W w') := fun W h => h.rvalid cs cm lp true hv
        by_cases h0 : ns = 0
        · have CO : ∀ W, DV W A ns B nm s m → Hid (Calls Try.prog 11 #[dval A ns cs B nm cm lp] W fun e w' => ∃ A' c, e = .returned (.tuple #[.slice A' 0 c, .int .i64 8]) ∧ RI w' A' 0 [] ∧ Below W.heap.size W w') := fun W h => of_e A B ns cs nm cm lp s m W h 8 [] (by simp [ofE, hv, hls, h0]) (by simp [ofL, hv, hls, h0])
          have h0' : ((ns : Int) == 0) = true := by simp [h0]
          clear hv hls h60 h0
          go_enter Try.func3, Try.ntmps3
          go_wp2_with (first
            | (go_at_call 10; ((with_reducible refine CA.out.mono ?_); rintro e w1 ⟨rfl, hb1⟩; have H1 := Lib.hid (H.out.keep hb1); have HD1 := Lib.hid (HD.out.keep hb1); obtain ⟨e0, e1, e2, elt⟩ := HD1.out))
            | (go_at_call 11; ((with_reducible refine (CO _ H1.out).out.mono ?_); rintro e w2 ⟨A2, c2, rfl, hr2, hb2⟩; have H2 := Lib.hid (H1.out.keep hb2); have HD2 := Lib.hid (HD1.out.keep hb2); obtain ⟨f0, f1, f2, flt⟩ := HD2.out))
            | (go_at_call 12; ((with_reducible refine (CV _ H2.out).out.mono ?_); rintro e w3 ⟨rfl, hb3⟩; obtain ⟨x0, x1, x2, xlt⟩ := HD2.out.keep hb3)))
          go_ret
          exact ⟨rfl, below_step (below_step (below_step hb0 hb1) hb2) hb3⟩
        · have h0' : ((ns : Int) == 0) = false := by simp; omega
          have hn1 : 1 ≤ ns := by omega
          have h0l : ¬ s.length = 0 := by omega
          by_cases hc : 1 < compM s m lp
          · have CO : ∀ W, DV W A ns B nm s m → Hid (Calls Try.prog 11 #[dval A ns cs B nm cm lp] W fun e w' => ∃ A' c, e = .returned (.tuple #[.slice A' 0 c, .int .i64 16]) ∧ RI w' A' 0 [] ∧ Below W.heap.size W w') := fun W h => of_e A B ns cs nm cm lp s m W h 16 [] (by simp [ofE, hv, h0l, hc]) (by simp [ofL, hv, h0l, hc])
            have CK : ∀ W, DV W A ns B nm s m → Hid (Calls Try.prog 13 #[dval A ns cs B nm cm lp, .int .i64 14] W fun e w' => e = .returned (.bool false) ∧ Below W.heap.size W w') := fun W h => knot_r false A B ns cs nm cm lp 14 s m W h hv hn1 (by omega) (by
              exact (decide_eq_false fun q => (knot_iff hv (by omega)).1 q hc).symm)
            clear hv hls h60 h0 h0l hc
            go_enter Try.func3, Try.ntmps3
            go_wp2_with (first
              | (go_at_call 10; ((with_reducible refine CA.out.mono ?_); rintro e w1 ⟨rfl, hb1⟩; have H1 := Lib.hid (H.out.keep hb1); have HD1 := Lib.hid (HD.out.keep hb1); obtain ⟨e0, e1, e2, elt⟩ := HD1.out))
              | (go_at_call 11; ((with_reducible refine (CO _ H1.out).out.mono ?_); rintro e w2 ⟨A2, c2, rfl, hr2, hb2⟩; have H2 := Lib.hid (H1.out.keep hb2); have HD2 := Lib.hid (HD1.out.keep hb2); obtain ⟨f0, f1, f2, flt⟩ := HD2.out))
              | (go_at_call 12; ((with_reducible refine (CV _ H2.out).out.mono ?_); rintro e w3 ⟨rfl, hb3⟩; have H3 := Lib.hid (H2.out.keep hb3); obtain ⟨x0, x1, x2, xlt⟩ := HD2.out.keep hb3))
              | (go_at_call 13; ((with_reducible refine (CK _ H3.out).out.mono ?_); rintro e w4 ⟨rfl, hb4⟩)))
            go_ret
            exact ⟨rfl, below_step (below_step (below_step (below_step hb0 hb1) hb2) hb3) hb4⟩
          · obtain ⟨hlp0, st, hst, hk⟩ := knot_one hv (by omega) (by omega)
            clear hlp0
            have hkv := hk.valid (by omega) (by omega)
            rw [hls] at hk hkv
            have hoL : ofL s m lp = cdF st ns := by simp [ofL, hv, hls, h0, hc, hst]
            have CO : ∀ W, DV W A ns B nm s m → Hid (Calls Try.prog 11 #[dval A ns cs B nm cm lp] W fun e w' => ∃ A' c, e = .returned (.tuple #[.slice A' ns c, .int .i64 0]) ∧ RI w' A' ns (cdF st ns) ∧ Below W.heap.size W w') := fun W h => by
              have := of_e A B ns cs nm cm lp s m W h 0 (cdF st ns) (by simp [ofE, hv, h0l, hc]) hoL
              rw [cdF_length] at this; exact this
            have CK : ∀ W, DV W A ns B nm s m → Hid (Calls Try.prog 13 #[dval A ns cs B nm cm lp, .int .i64 14] W fun e w' => e = .returned (.bool true) ∧ Below W.heap.size W w') := fun W h => knot_r true A B ns cs nm cm lp 14 s m W h hv hn1 (by omega) (decide_eq_true ((knot_iff hv (by omega)).2 hc)).symm
            have CR : ∀ W, DV W A ns B nm s m → Hid (Calls Try.prog 15 #[dval A ns cs B nm cm lp] W fun e w' => ∃ g, e = .returned (.slice (some ⟨g, 0, none⟩) ns ns) ∧ RI w' (some ⟨g, 0, none⟩) ns (cdF st ns) ∧ Below W.heap.size W w') := fun W h => by
              refine (drof_any A B ns cs nm cm lp s m st W h.hs hn1 (by omega) hk (fun W' hb => by
                have := strands_call cs cm (h.keep hb) hv
                rw [hst] at this; exact this)).mono ?_
              rintro e w' ⟨g, rfl, hA, hb⟩
              exact ⟨g, rfl, ri_arr hA, hb⟩
            have CI : ∀ (W : World) (A1 A2 : Option Addr) (c1 c2 : Nat), RI W A1 ns (cdF st ns) → RI W A2 ns (cdF st ns) → Hid (Calls Try.prog 14 #[.slice A1 ns c1, .slice A2 ns c2] W fun e w' => e = .returned (.bool true) ∧ Below W.heap.size W w') := fun W A1 A2 c1 c2 h1 h2 =>
              ints_r true A1 A2 ns c1 ns c2 _ _ W h1 h2 (by omega) (by omega) (by simp)
            have CG : ∀ (W : World) (A1 : Option Addr) (c1 : Nat), RI W A1 ns (cdF st ns) → Hid (Calls Try.prog 16 #[.slice A1 ns c1] W fun e w' => e = .returned (.bool true) ∧ Below W.heap.size W w') := fun W A1 c1 h1 => dvalid_r true A1 ns c1 _ W h1 (by omega) (inL_dv hkv) hkv.symm
            obtain ⟨a, ha⟩ : ∃ a, cdF st ns = a := ⟨_, rfl⟩
            simp only [ha] at CO CR CI CG
            clear hv hls h60 h0 h0l hc hst hk hkv hoL ha
            go_enter Try.func3, Try.ntmps3
            go_wp2_with (first
              | (go_at_call 10; ((with_reducible refine CA.out.mono ?_); rintro e w1 ⟨rfl, hb1⟩; have H1 := Lib.hid (H.out.keep hb1); have HD1 := Lib.hid (HD.out.keep hb1); obtain ⟨e0, e1, e2, elt⟩ := HD1.out))
              | (go_at_call 11; ((with_reducible refine (CO _ H1.out).out.mono ?_); rintro e w2 ⟨A2, c2, rfl, hr2, hb2⟩; have H2 := Lib.hid (H1.out.keep hb2); have HD2 := Lib.hid (HD1.out.keep hb2); obtain ⟨f0, f1, f2, flt⟩ := HD2.out))
              | (go_at_call 12; ((with_reducible refine (CV _ H2.out).out.mono ?_); rintro e w3 ⟨rfl, hb3⟩; have H3 := Lib.hid (H2.out.keep hb3); have HD3 := Lib.hid (HD2.out.keep hb3); obtain ⟨x0, x1, x2, xlt⟩ := HD3.out; have hr3 := hr2.keep hb3))
              | (go_at_call 13; ((with_reducible refine (CK _ H3.out).out.mono ?_); rintro e w4 ⟨rfl, hb4⟩; have H4 := Lib.hid (H3.out.keep hb4); obtain ⟨y0, y1, y2, ylt⟩ := HD3.out.keep hb4; have hr4 := hr3.keep hb4))
              | (go_at_call 15; ((with_reducible refine (CR _ H4.out).out.mono ?_); rintro e w5 ⟨g5, rfl, hR5, hb5⟩; have hr5 := hr4.keep hb5))
              | (go_at_call 14; ((with_reducible refine (CI _ _ _ _ _ hr5 hR5).out.mono ?_); rintro e w6 ⟨rfl, hb6⟩; have hr6 := hr5.keep hb6))
              | (go_at_call 16; ((with_reducible refine (CG _ _ _ hr6).out.mono ?_); rintro e w7 ⟨rfl, hb7⟩)))
            go_ret
            exact ⟨rfl, below_step (below_step (below_step (below_step (below_step (below_step (below_step hb0 hb1) hb2) hb3) hb4) hb5) hb6) hb7⟩

end Go.Proofs.Ytambhopkacgddaa
