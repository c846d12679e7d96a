import Derived.Test.YtkfjledhnakfoaaA09
import Derived.Test.YtkfjledhnakfoaaA10
import Derived.Test.YtkfjledhnakfoaaA04
import Derived.ProofKit
import Derived.Lib.SmallJoins
/- Walk of the reference's Valid. -/
namespace Go.Proofs.Ytkfjledhnakfoaa
open Go.RowKit

theorem sgnsB_bad {xs : List Int} {k : Nat} (hk : k < xs.length) (h : sgB (xs.getD k 0) = false) : sgnsB xs = false := by
  cases e : sgnsB xs with
  | false => rfl
  | true => rw [(sgnsB_iff xs).1 e k hk] at h; cases h
theorem pairB_bad {signs mate : List Int} {k : Nat} (hk : k < mate.length) (h : pOK signs mate k = false) : pairB signs mate = false := by
  cases e : pairB signs mate with
  | false => rfl
  | true => rw [(pairB_iff _ _).1 e k hk] at h; cases h
theorem validB_lim {signs mate : List Int} {lp : Int} (h : limB signs.length mate.length lp = false) : validB signs mate lp = false := by simp [validB, h]
theorem validB_sg {signs mate : List Int} {lp : Int} (h : sgnsB signs = false) : validB signs mate lp = false := by simp [validB, h]
theorem validB_pair {signs mate : List Int} {lp : Int} (h : pairB signs mate = false) : validB signs mate lp = false := by simp [validB, h]
theorem validB_sph {signs mate : List Int} {lp : Int} (h : sphM mate signs.length = false) : validB signs mate lp = false := by simp [validB, h]

def heads (f : Nat → Nat) (N : Nat) : List Nat := (List.range N).filter (fst f N)
theorem cycL_heads (f : Nat → Nat) (N : Nat) : cycL f N (fun _ => true) N = (heads f N).map (fun h => itl f h (per f N h)) := by
  unfold cycL heads
  rw [List.filter_congr fun h _ => sel_true f N h]
theorem heads_length (f : Nat → Nat) (N : Nat) : (cycL f N (fun _ => true) N).length = (heads f N).length := by rw [cycL_heads, List.length_map]
theorem cntF_heads (F f : Nat → Nat) (N l : Nat) : (heads f N).countP (fun h => F (h / 4) == l) = cntF F f N N l := by
  unfold heads cntF
  rw [List.countP_filter]
  exact List.countP_congr fun h _ => by simp [and_comm]
theorem heads_el (f : Nat → Nat) (N i : Nat) (hi : i < (heads f N).length) : (cycL f N (fun _ => true) N).getD i [] = itl f ((heads f N).getD i 0) (per f N ((heads f N).getD i 0)) := by
  rw [cycL_heads]
  simp [List.getD, hi]
theorem heads_lt (f : Nat → Nat) (N i : Nat) (hi : i < (heads f N).length) : (heads f N).getD i 0 < N := by
  have e : (heads f N).getD i 0 = (heads f N)[i] := by simp [List.getD, hi]
  rw [e]
  have := List.getElem_mem hi
  exact List.mem_range.1 (List.mem_filter.1 this).1
theorem countP_take_succ (p : Nat → Bool) (l : List Nat) (i : Nat) (hi : i < l.length) : (l.take (i + 1)).countP p = (l.take i).countP p + if p (l.getD i 0) then 1 else 0 := by
  have e : l.getD i 0 = l[i] := by simp [List.getD, hi]
  rw [List.take_succ_eq_append_getElem hi, List.countP_append, e]
  simp [List.countP_cons]

set_option maxHeartbeats 6400000 in
set_option maxRecDepth 100000 in
theorem rvalid_main (r : Bool) (A B : Option Addr) (ns cs nm cm : Nat) (lp : Int) (signs mate : List Int) (w : World) (h : DV w A ns B nm signs mate) (h1 : ns ≤ 64) (h2 : nm = 4 * ns) (h3 : 0 ≤ lp) (h4 : lp ≤ 64) (hr : r = validB signs mate lp) :
    Calls Try.prog 15 #[dval A ns cs B nm cm lp] w fun e w' => e = .returned (.bool r) ∧ Below w.heap.size w w' := by
  have hd := DB.new w A ns cs B nm cm lp
  have hb0 := below_alloc w (dbox A ns cs B nm cm lp)
  have hls := h.hs.1
  have hlm := h.hm.1
  have HR := Lib.hid hr
  have HNM := Lib.hid h2
  have HLS := Lib.hid hls
  have HLM := Lib.hid hlm
  have H := Lib.hid (h.keep hb0)
  have hE : (nm : Int) = 4 * (ns : Int) := by omega
  have hE' : ((nm : Int) != 4 * (ns : Int)) = false := by simp [hE]
  clear hr h hls hlm h2 hE
  go_enter Try.func15, Try.ntmps15
  obtain ⟨d0, d1, d2, dlt⟩ := hd
  generalize hwA : w.alloc (dbox A ns cs B nm cm lp) = wA at hb0 H d0 d1 d2 dlt
  go_upto_region 4 with (fail)
  clear hwA
  have hnsI : (ns : Int) ≤ 64 := by omega
  have HE1 : Hid (∀ j, j < 0 → sgB (signs.getD j 0) = true) := fun j hj => absurd hj (by omega)
  go_wp2
  go_loop [4] (fun i => ∃ k : Nat, k ≤ ns ∧ i = .int .i64 k ∧ Hid (∀ j, j < k → sgB (signs.getD j 0) = true)) (fun i => ns - (intOf i).toNat)
  case atStart => exact ⟨0, by omega, rfl, HE1⟩
  case round =>
    obtain ⟨k, hk, rfl, hall⟩ := hrel
    by_cases hlt : k < ns
    · obtain ⟨b, off, rfl, hbb, hc⟩ := H.out.hs.2 (by omega)
      have hck := hc k hlt
      have hk0 : (0 : Int) ≤ (k : Int) := Int.natCast_nonneg _
      have hk1 : (k : Int) < (ns : Int) := by omega
      cases hsg : sgB (signs.getD k 0) with
      | true =>
        have hall' : Hid (∀ j, j < k + 1 → sgB (signs.getD j 0) = true) := fun j hj => by
          by_cases e : j = k
          · subst e; exact hsg
          · exact hall.out j (by omega)
        clear hc
        generalize signs.getD k 0 = x at hck hsg
        have hcase : x = 1 ∨ x = -1 := by unfold sgB at hsg; simpa using hsg
        clear hsg
        rcases hcase with rfl | rfl
        all_goals
          go_wp2
          go_round
          case rel => exact ⟨k + 1, by omega, by go_num, hall'⟩
          case measure => simp [intOf]; omega
      | false =>
        obtain rfl : r = false := HR.out.trans (validB_sg (sgnsB_bad (by rw [HLS.out]; exact hlt) hsg))
        clear hc HR
        generalize signs.getD k 0 = x at hck hsg
        have hx1 : (x != 1) = true := by unfold sgB at hsg; simp at hsg; simp [hsg.1]
        have hx2 : (x != -1) = true := by unfold sgB at hsg; simp at hsg; simp [hsg.2]
        clear hsg
        go_wp2
        go_ret
        exact ⟨rfl, hb0⟩
    · obtain rfl : k = ns := by omega
      have HSG := Lib.hid ((sgnsB_iff signs).2 (by rw [HLS.out]; exact hall.out))
      have HE2 : Hid (∀ j, j < 0 → pOK signs mate j = true) := fun j hj => absurd hj (by omega)
      clear hlt hk hall HE1
      go_wp2
      go_loopw [5, 6] (fun i _ wr => ∃ q : Nat, q ≤ nm ∧ i = .int .i64 q ∧ Below wA.heap.size wA wr ∧ Hid (∀ j, j < q → pOK signs mate j = true)) (fun i _ _ => nm - (intOf i).toNat)
      case atStart => exact ⟨0, by omega, rfl, Below.refl _ _, HE2⟩
      case round =>
        obtain ⟨q, hq, rfl, hbr, hall⟩ := hrel
        have d0' := (hbr.cell (p := ⟨w.heap.size, 0, none⟩) dlt).trans d0
        have d1' := (hbr.cell (p := ⟨w.heap.size, 1, none⟩) dlt).trans d1
        have hq0 : (0 : Int) ≤ (q : Int) := Int.natCast_nonneg _
        by_cases hlt : q < nm
        · obtain ⟨b, off, rfl, hbb, hc⟩ := (H.out.hm.keep hbr).2 (by omega)
          have hsr := H.out.hs.keep hbr
          have hrange := H.out.hrange
          have hcq : wr.cell? ⟨b, off + q, none⟩ = some (.int .i64 (mt mate q)) := hc q hlt
          have hq1 : (q : Int) < (nm : Int) := by omega
          have hq4 : q / 4 < k := by have := HNM.out; omega
          have hq2 : (q : Int) < 4 * (k : Int) := by have := HNM.out; omega
          cases hp : pOK signs mate q with
          | true =>
            have hall' : Hid (∀ j, j < q + 1 → pOK signs mate j = true) := fun j hj => by
              by_cases e : j = q
              · subst e; exact hp
              · exact hall.out j (by omega)
            obtain ⟨m, hmk, hmlt, hmm, hne⟩ := pOK_out hp HLM.out
            have hcm : wr.cell? ⟨b, off + m, none⟩ = some (.int .i64 (mt mate m)) := hc m hmlt
            rw [hmk] at hcq
            rw [hmm] at hcm
            have hm4 : m / 4 < k := by have := HNM.out; omega
            have hmq : ((m : Int) == (q : Int)) = false := by
              simp only [beq_eq_false_iff_ne, ne_eq]
              intro e
              have : m = q := by omega
              subst this; exact hne rfl
            have C1 := Lib.hid (rout_any A k cs signs q wr.drew hsr hq4 (by omega))
            have C2 := Lib.hid (rout_any A k cs signs m wr.drew hsr hm4 (by omega))
            have hne' : outB signs m = !(outB signs q) := by cases h1 : outB signs q <;> cases h2 : outB signs m <;> simp_all
            rw [hne'] at C2
            clear hne hne' hc hmk hmm hp hsr hrange
            generalize outB signs q = p at C1 C2
            have hm0 : (0 : Int) ≤ (m : Int) := Int.natCast_nonneg _
            have hm0' : decide ((m : Int) < 0) = false := by simp only [decide_eq_false_iff_not]; omega
            have hm1'' : decide (4 * (k : Int) ≤ (m : Int)) = false := by have := HNM.out; simp only [decide_eq_false_iff_not]; omega
            have hm1' : (m : Int) < (nm : Int) := by omega
            have hw4 : IntKind.i64.wrap (4 * (k : Int)) = 4 * (k : Int) := IntWalk.i64_in _ (by omega)
            go_wp2
            go_region_held3 (fun w' => w'.cell? ⟨w.heap.size, 0, none⟩ = some (.slice A k cs) ∧ w'.cell? ⟨w.heap.size, 1, none⟩ = some (.slice (some ⟨b, off, none⟩) nm cm) ∧ w'.cell? ⟨b, off + m, none⟩ = some (.int .i64 (q : Int)))
              (go_keep)
              (first
                | (go_at_call 57; ((with_reducible refine C1.out.mono ?_); rintro e w' ⟨rfl, rfl⟩))
                | (go_at_call 57; ((with_reducible refine C2.out.mono ?_); rintro e w' ⟨rfl, rfl⟩)))
            go_wp2
            go_roundw
            case rel => exact ⟨q + 1, by omega, by go_num, hbr.drew, hall'⟩
            case measure => simp [intOf]; omega
          | false =>
            obtain rfl : r = false := HR.out.trans (validB_pair (pairB_bad (by rw [HLM.out]; exact hlt) hp))
            have hcase := pOK_bad hp HLM.out
            have hr0 := hrange q hlt
            have hbw := hb0.trans (hbr.mono hb0.size)
            have hw4 : IntKind.i64.wrap (4 * (k : Int)) = 4 * (k : Int) := IntWalk.i64_in _ (by omega)
            clear hp HR hall
            rcases hcase with hneg | hbig | ⟨m, hmk, hmlt, hrest⟩
            · have hx1 : decide (mt mate q < 0) = true := by simp only [decide_eq_true_eq]; omega
              clear hc hrange hsr
              generalize mt mate q = x at hcq hneg hx1 hr0
              obtain ⟨hr1, hr2⟩ := hr0
              go_wp2
              go_quiet (fail)
              go_wp2
              go_ret
              exact ⟨rfl, by first | exact hbw.drew | exact below_drewN hbw _⟩
            · have hx1 : decide (mt mate q < 0) = false := by simp only [decide_eq_false_iff_not]; omega
              have hx2 : decide (4 * (k : Int) ≤ mt mate q) = true := by have := HNM.out; simp only [decide_eq_true_eq]; omega
              clear hc hrange hsr
              generalize mt mate q = x at hcq hbig hx1 hx2 hr0
              obtain ⟨hr1, hr2⟩ := hr0
              go_wp2
              go_quiet (fail)
              go_wp2
              go_ret
              exact ⟨rfl, by first | exact hbw.drew | exact below_drewN hbw _⟩
            · have hm0 : (0 : Int) ≤ (m : Int) := Int.natCast_nonneg _
              have hm0' : decide ((m : Int) < 0) = false := by simp only [decide_eq_false_iff_not]; omega
              have hm1'' : decide (4 * (k : Int) ≤ (m : Int)) = false := by have := HNM.out; simp only [decide_eq_false_iff_not]; omega
              have hm1' : (m : Int) < (nm : Int) := by omega
              have hm4 : m / 4 < k := by have := HNM.out; omega
              by_cases hmq : m = q
              · subst hmq
                rw [hmk] at hcq
                clear hc hrange hsr hrest hmk hr0
                go_wp2
                go_quiet (fail)
                go_wp2
                go_ret
                exact ⟨rfl, by first | exact hbw.drew | exact below_drewN hbw _⟩
              · have hmqb : ((m : Int) == (q : Int)) = false := by simp only [beq_eq_false_iff_ne, ne_eq]; omega
                have hcm : wr.cell? ⟨b, off + m, none⟩ = some (.int .i64 (mt mate m)) := hc m hmlt
                have hrm := hrange m hmlt
                rw [hmk] at hcq
                rcases hrest with hne | ⟨heq, hout⟩
                · have hx : (mt mate m != (q : Int)) = true := by simp [hne]
                  clear hc hrange hsr hmk hr0
                  generalize mt mate m = x at hcm hx hne hrm
                  go_wp2
                  go_quiet (fail)
                  go_wp2
                  go_ret
                  exact ⟨rfl, by first | exact hbw.drew | exact below_drewN hbw _⟩
                · rw [heq] at hcm
                  have C1 := Lib.hid (rout_any A k cs signs q wr.drew hsr hq4 (by omega))
                  have C2 := Lib.hid (rout_any A k cs signs m wr.drew hsr hm4 (by omega))
                  rw [hout] at C2
                  clear hout heq hc hmk hrange hsr hr0 hrm
                  generalize outB signs q = p at C1 C2
                  go_wp2
                  go_region_held3 (fun w' => w'.cell? ⟨w.heap.size, 0, none⟩ = some (.slice A k cs) ∧ w'.cell? ⟨w.heap.size, 1, none⟩ = some (.slice (some ⟨b, off, none⟩) nm cm) ∧ w'.cell? ⟨b, off + m, none⟩ = some (.int .i64 (q : Int)))
                    (go_keep)
                    (first
                      | (go_at_call 57; ((with_reducible refine C1.out.mono ?_); rintro e w' ⟨rfl, rfl⟩))
                      | (go_at_call 57; ((with_reducible refine C2.out.mono ?_); rintro e w' ⟨rfl, rfl⟩)))
                  go_wp2
                  go_ret
                  exact ⟨rfl, by first | exact hbw.drew | exact below_drewN hbw _⟩
        · obtain rfl : q = nm := by omega
          have HPB := Lib.hid ((pairB_iff signs mate).2 (by rw [HLM.out]; exact hall.out))
          have HM := Lib.hid (matesOf_mates HPB.out HLM.out)
          have HI := Lib.hid (show Invol (matesOf mate) (4 * k) from by have := matesOf_invol HPB.out HLM.out; rwa [HNM.out] at this)
          have HP := Lib.hid (show Perm (ff (matesOf mate)) q from by rw [HNM.out]; exact HI.out.perm 3)
          have hq256 : q ≤ 256 := by have := HNM.out; omega
          have hge : 4 * (k : Int) ≤ (q : Int) := by have := HNM.out; omega
          clear hlt hq hall HE2
          have CL := Lib.hid (label_any B q cm k mate (matesOf mate) wr (H.out.hm.keep hbr) HM.out HNM.out hq256)
          go_wp2_with (first
            | (go_at_call 58; ((with_reducible refine CL.out.mono ?_); rintro e w2 ⟨vl, rfl, hol, hb2⟩; have hbr2 := below_step hbr hb2; have d0'' := (hbr2.cell (p := ⟨w.heap.size, 0, none⟩) dlt).trans d0; have d1'' := (hbr2.cell (p := ⟨w.heap.size, 1, none⟩) dlt).trans d1; have CF := Lib.hid (rfaces_any B q cm mate (matesOf mate) w2 (H.out.hm.keep hbr2) HM.out HP.out hq256)))
            | (go_at_call 59; ((with_reducible refine CF.out.mono ?_); rintro e w3 ⟨vf, rfl, hof, hb3⟩)))
          have hbw3 := below_step (below_step hb0 hbr2) hb3
          have hol3 := hol.keep hb3
          obtain ⟨Af, cf, rfl, hrf⟩ := hof.ro
          rw [heads_length] at hrf
          have FL := Lib.hid (fun c (hc : c < k) => labAt_eq (m := matesOf mate) (F := ufLab (matesOf mate) q) HNM.out (fun h hh => (HM.out h hh).2) (ufLab_isLab (matesOf mate) q k) c hc)
          have HE3 : Hid (∀ j, j < 0 → labAt (matesOf mate) q k j = j → cntF (labAt (matesOf mate) q k) (ff (matesOf mate)) q q j = cntV (labAt (matesOf mate) q k) k j + 2) := fun j hj => absurd hj (by omega)
          clear hol hof d0'' d1'' d0' d1' hb2 hb3 hbr2 hbr CL
          have FC := Lib.hid (fun c (hc : c < k) => lab_le (matesOf mate) q k c)
          have HLAB := Lib.hid (show ufLab (matesOf mate) q = ufLab (matesOf mate) q from rfl)
          generalize hF : labAt (matesOf mate) q k = F at *
          clear hF HLAB
          have hlenI : ((List.range k).map fun i => (F i : Int)).length = k := by simp
          have hgetI : ∀ c, c < k → ((List.range k).map fun i => (F i : Int)).getD c 0 = (F c : Int) := fun c hc => by simp [List.getD, hc]
          have HG := Lib.hid hgetI
          have HLI := Lib.hid hlenI
          have HOL := Lib.hid hol3
          have HRF := Lib.hid hrf
          rw [heads_length]
          have hnf : (heads (ff (matesOf mate)) q).length ≤ 256 := by rw [← heads_length]; exact Nat.le_trans (cycL_length _ _ _ _) hq256
          clear hlenI hgetI hol3 hrf
          go_loop [9, 10, 11, 12, 13] (fun i _ _ _ _ => ∃ c : Nat, c ≤ k ∧ i = .int .i64 c ∧ Hid (∀ j, j < c → F j = j → cntF F (ff (matesOf mate)) q q j = cntV F k j + 2)) (fun i _ _ _ _ => k - (intOf i).toNat)
          case atStart => exact ⟨0, by omega, rfl, HE3⟩
          case round =>
            obtain ⟨c, hc, rfl, hall⟩ := hrel
            have hc0 : (0 : Int) ≤ (c : Int) := Int.natCast_nonneg _
            by_cases hlt : c < k
            · obtain ⟨gl, cl, rfl⟩ := HOL.out.form_pos HLI.out (by omega)
              have hcell : ∀ b, b < k → w3.cell? ⟨gl, b, none⟩ = some (.int .i64 (F b : Nat)) := fun b hb => by
                rw [HOL.out.cell b (by rw [HLI.out]; exact hb), HG.out b hb]
              have HCE := Lib.hid hcell
              have hcc := hcell c hlt
              have hFle : F c ≤ c := FC.out c hlt
              clear hcell
              have hc1 : (c : Int) < (k : Int) := by omega
              by_cases hFc : F c = c
              · rw [hFc] at hcc
                have HFc := Lib.hid hFc
                clear hFc hFle
                go_wp2
                go_loop [10, 12] (fun v i => ∃ b : Nat, b ≤ k ∧ i = .int .i64 b ∧ v = .int .i64 (cntV F b c : Nat)) (fun _ i => k - (intOf i).toNat)
                case atStart => exact ⟨0, by omega, rfl, rfl⟩
                case round =>
                  obtain ⟨b, hb, rfl, rfl⟩ := hrel
                  have hb0' : (0 : Int) ≤ (b : Int) := Int.natCast_nonneg _
                  by_cases hbl : b < k
                  · have hcb := HCE.out b hbl
                    have hb1 : (b : Int) < (k : Int) := by omega
                    have hvle := cntV_le F b c
                    have hsucc := cntV_succ F b c
                    by_cases hFb : F b = c
                    · rw [hFb] at hcb
                      have HS := Lib.hid (show cntV F (b + 1) c = cntV F b c + 1 from by rw [hsucc, hFb]; simp)
                      clear hsucc hFb
                      generalize cntV F b c = v at *
                      have hv0 : (0 : Int) ≤ (v : Int) := Int.natCast_nonneg _
                      go_wp2
                      go_round
                      case rel => exact ⟨b + 1, by omega, by go_num, by rw [HS.out]; go_num⟩
                      case measure => simp [intOf]; omega
                    · have hne : ((F b : Int) == (c : Int)) = false := by simp only [beq_eq_false_iff_ne, ne_eq]; omega
                      have HS := Lib.hid (show cntV F (b + 1) c = cntV F b c from by rw [hsucc]; simp [hFb])
                      clear hsucc hFb
                      generalize cntV F b c = v at *
                      generalize F b = x at *
                      go_wp2
                      go_round
                      case rel => exact ⟨b + 1, by omega, by go_num, by rw [HS.out]⟩
                      case measure => simp [intOf]; omega
                  · obtain rfl : k = b := by omega
                    go_wp2
                    go_loop [11, 13] (fun f i => ∃ e : Nat, e ≤ (heads (ff (matesOf mate)) q).length ∧ i = .int .i64 e ∧ f = .int .i64 (((heads (ff (matesOf mate)) q).take e).countP (fun h => F (h / 4) == c) : Nat)) (fun _ i => (heads (ff (matesOf mate)) q).length - (intOf i).toNat)
                    case atStart => exact ⟨0, by omega, rfl, rfl⟩
                    case round =>
                      obtain ⟨e, he, rfl, rfl⟩ := hrel
                      have he0 : (0 : Int) ≤ (e : Int) := Int.natCast_nonneg _
                      by_cases hel : e < (heads (ff (matesOf mate)) q).length
                      · have he1 : (e : Int) < ((heads (ff (matesOf mate)) q).length : Int) := by omega
                        obtain ⟨bf, of, rfl, hbf⟩ := HRF.out.at_ (by omega)
                        obtain ⟨A', n', c', hsl, hri⟩ := HRF.out.el e hel
                        have hhd := heads_lt (ff (matesOf mate)) q e hel
                        rw [heads_el _ _ _ hel] at hri
                        have hsucc := countP_take_succ (fun h => F (h / 4) == c) (heads (ff (matesOf mate)) q) e hel
                        generalize (heads (ff (matesOf mate)) q).getD e 0 = hd at *
                        have hpos := per_pos (ff (matesOf mate)) q hd
                        have hn' : n' = per (ff (matesOf mate)) q hd := by rw [← hri.1, itl_length]
                        obtain ⟨bb, ob, rfl, _, hcb⟩ := hri.2 (by omega)
                        have hc0' := hcb 0 (by omega)
                        rw [itl_getD _ _ _ _ hpos] at hc0'
                        have hit0 : it (ff (matesOf mate)) 0 hd = hd := rfl
                        rw [hit0] at hc0'
                        simp only [Nat.add_zero] at hc0'
                        have hn1 : (0 : Int) < (n' : Int) := by omega
                        have hn1' : 0 < n' := by omega
                        have hd4 : hd / 4 < k := by have := HNM.out; omega
                        have hcf := HCE.out (hd / 4) hd4
                        have hhd0 : (0 : Int) ≤ (hd : Int) := Int.natCast_nonneg _
                        have hd41 : (hd : Int) / 4 < (k : Int) := by omega
                        have hw1 : IntKind.i64.wrap ((hd : Int) / 4) = (hd : Int) / 4 := IntWalk.i64_in _ (by omega)
                        have hfle : ((heads (ff (matesOf mate)) q).take e).countP (fun h => F (h / 4) == c) ≤ e := Nat.le_trans List.countP_le_length (by simp; omega)
                        clear hri hcb hn' hit0 hpos
                        by_cases hFb : F (hd / 4) = c
                        · rw [hFb] at hcf
                          have HS := Lib.hid (show ((heads (ff (matesOf mate)) q).take (e + 1)).countP (fun h => F (h / 4) == c) = ((heads (ff (matesOf mate)) q).take e).countP (fun h => F (h / 4) == c) + 1 from by rw [hsucc, hFb]; simp)
                          clear hsucc hFb
                          generalize ((heads (ff (matesOf mate)) q).take e).countP (fun h => F (h / 4) == c) = f at *
                          have hf0 : (0 : Int) ≤ (f : Int) := Int.natCast_nonneg _
                          go_wp2
                          go_round
                          case rel => exact ⟨e + 1, by omega, by go_num, by rw [HS.out]; go_num⟩
                          case measure => simp [intOf]; omega
                        · have hne : ((F (hd / 4) : Int) == (c : Int)) = false := by simp only [beq_eq_false_iff_ne, ne_eq]; omega
                          have HS := Lib.hid (show ((heads (ff (matesOf mate)) q).take (e + 1)).countP (fun h => F (h / 4) == c) = ((heads (ff (matesOf mate)) q).take e).countP (fun h => F (h / 4) == c) from by rw [hsucc]; simp [hFb])
                          clear hsucc hFb
                          generalize ((heads (ff (matesOf mate)) q).take e).countP (fun h => F (h / 4) == c) = f at *
                          generalize F (hd / 4) = x at *
                          go_wp2
                          go_round
                          case rel => exact ⟨e + 1, by omega, by go_num, by rw [HS.out]⟩
                          case measure => simp [intOf]; omega
                      · have hee : e = (heads (ff (matesOf mate)) q).length := by omega
                        subst hee
                        have hcnt : ((heads (ff (matesOf mate)) q).take (heads (ff (matesOf mate)) q).length).countP (fun h => F (h / 4) == c) = cntF F (ff (matesOf mate)) q q c := by
                          rw [List.take_length]; exact cntF_heads F (ff (matesOf mate)) q c
                        have hv1 := cntV_le F k c
                        have hv2 := cntF_le F (ff (matesOf mate)) q q c
                        rw [hcnt]
                        have HCN := Lib.hid (show Hid (F c = c) from HFc)
                        by_cases heq : cntF F (ff (matesOf mate)) q q c = cntV F k c + 2
                        · have hall' : Hid (∀ j, j < c + 1 → F j = j → cntF F (ff (matesOf mate)) q q j = cntV F k j + 2) := fun j hj e => by
                            by_cases e' : j = c
                            · subst e'; exact heq
                            · exact hall.out j (by omega) e
                          rw [heq]
                          clear heq hcnt hel he hall hv2
                          generalize cntV F k c = v at *
                          have hv0 : (0 : Int) ≤ (v : Int) := Int.natCast_nonneg _
                          go_wp2
                          go_round
                          case rel => exact ⟨c + 1, by omega, by go_num, hall'⟩
                          case measure => simp [intOf]; omega
                        · have hsf : sphM mate signs.length = false := by
                            cases hs : sphM mate signs.length with
                            | false => rfl
                            | true =>
                              unfold sphM at hs
                              rw [HLM.out, HLS.out] at hs
                              have hs2 : sphB F (ff (matesOf mate)) q k = true := by
                                rw [← hs, HNM.out]
                                exact sphB_congr fun x hx => by have := FL.out x hx; rw [HNM.out] at this; exact this
                              have := (sphB_iff _ _ _ _).1 hs2 c hlt
                              rw [HFc.out] at this
                              exact absurd this heq
                          obtain rfl : r = false := HR.out.trans (validB_sph hsf)
                          have hbne : ((cntF F (ff (matesOf mate)) q q c : Int) != (cntV F k c : Int) + 2) = true := by simp only [bne_iff_ne, ne_eq]; omega
                          clear heq hcnt hel he hall HR hsf
                          generalize cntF F (ff (matesOf mate)) q q c = f at *
                          generalize cntV F k c = v at *
                          have hv0 : (0 : Int) ≤ (v : Int) := Int.natCast_nonneg _
                          go_wp2
                          go_ret
                          exact ⟨rfl, hbw3⟩
              · have hne : ((F c : Int) != (c : Int)) = true := by simp only [bne_iff_ne, ne_eq]; omega
                have hall' : Hid (∀ j, j < c + 1 → F j = j → cntF F (ff (matesOf mate)) q q j = cntV F k j + 2) := fun j hj e => by
                  by_cases e' : j = c
                  · subst e'; exact absurd e hFc
                  · exact hall.out j (by omega) e
                clear hFc hFle
                generalize F c = x at *
                go_wp2
                go_round
                case rel => exact ⟨c + 1, by omega, by go_num, hall'⟩
                case measure => simp [intOf]; omega
            · obtain rfl : c = k := by omega
              have hst : sphM mate signs.length = true := by
                unfold sphM
                rw [HLM.out, HLS.out]
                have hs2 : sphB F (ff (matesOf mate)) q c = true := (sphB_iff _ _ _ _).2 fun x hx => by
                  have hx1 := FL.out x hx
                  have hlab := ufLab_isLab (matesOf mate) q c
                  obtain ⟨hl1, hl2⟩ := hlab.1 x hx
                  have hFx : F x < c := by rw [hx1]; omega
                  have hid : F (F x) = F x := by rw [FL.out (F x) hFx, hx1]; exact (hlab.conn hl2).symm
                  exact hall.out (F x) hFx hid
                rw [← hs2, HNM.out]
                exact (sphB_congr fun x hx => by have := FL.out x hx; rw [HNM.out] at this; exact this.symm)
              have hvt : validB signs mate lp = true := by
                unfold validB
                rw [hst, HSG.out, HPB.out, HLS.out, HLM.out]
                simp [limB, h1, h3, h4, HNM.out]
              obtain rfl : r = true := HR.out.trans hvt
              clear hlt hc hall HR hst hvt
              go_wp2
              go_ret
              exact ⟨rfl, hbw3⟩

end Go.Proofs.Ytkfjledhnakfoaa

/- The reference's Valid, for every diagram; Out. -/
namespace Go.Proofs.Ytkfjledhnakfoaa
open Go.RowKit

set_option maxHeartbeats 1600000 in
set_option maxRecDepth 100000 in
theorem rvalid_lim (A B : Option Addr) (ns cs nm cm : Nat) (lp : Int) (w : World) (hns : ns ≤ 100000000000000) (hnm : nm ≤ 100000000000000) (hl : limB ns nm lp = false) :
    Calls Try.prog 15 #[dval A ns cs B nm cm lp] w fun e w' => e = .returned (.bool false) ∧ Below w.heap.size w w' := by
  by_cases h1 : ns ≤ 64
  · by_cases h2 : nm = 4 * ns
    · subst h2
      by_cases h3 : 0 ≤ lp
      · have h4' : 64 < lp := by
          by_cases h4 : lp ≤ 64
          · simp [limB, *] at hl
          · omega
        clear hl
        go_enter Try.func15, Try.ntmps15
        go_wp2
        go_ret
        exact ⟨rfl, below_alloc _ _⟩
      · have h4' : lp < 0 := by omega
        clear hl h3
        go_enter Try.func15, Try.ntmps15
        go_wp2
        go_ret
        exact ⟨rfl, below_alloc _ _⟩
    · have h4 : ((nm : Int) != 4 * (ns : Int)) = true := by simp only [bne_iff_ne, ne_eq]; omega
      clear hl h2
      go_enter Try.func15, Try.ntmps15
      go_wp2
      go_ret
      exact ⟨rfl, below_alloc _ _⟩
  · have h4' : 64 < ns := by omega
    clear hl h1
    go_enter Try.func15, Try.ntmps15
    go_wp2
    go_ret
    exact ⟨rfl, below_alloc _ _⟩

theorem DV.rvalid {w : World} {A B : Option Addr} {ns nm : Nat} {signs mate : List Int} (h : DV w A ns B nm signs mate) (cs cm : Nat) (lp : Int) (r : Bool) (hr : validB signs mate lp = r) :
    Calls Try.prog 15 #[dval A ns cs B nm cm lp] w fun e w' => e = .returned (.bool r) ∧ Below w.heap.size w w' := by
  cases hl : limB ns nm lp with
  | true =>
    obtain ⟨l1, l2, l3, l4⟩ := limB_out hl
    exact rvalid_main r A B ns cs nm cm lp signs mate w h l1 l2 l3 l4 hr.symm
  | false =>
    have : r = false := by
      rw [← hr]; exact validB_lim (by rw [h.hs.1, h.hm.1]; exact hl)
    subst this
    exact rvalid_lim A B ns cs nm cm lp w h.hns h.hnm hl


end Go.Proofs.Ytkfjledhnakfoaa

/- Opening a diagram that comes in, and shutting a law's call. -/
namespace Go.Proofs.Ytkfjledhnakfoaa
open Go.ChangeShapes Go.WideShapes Go.ChangeAt Go.RowKit Go.Joins

theorem Try.own : ownKnob Try.prog.godebug = none := by kernel_rfl
theorem Try.laidOut : laidOutB Try.prog = true := by kernel_rfl
theorem Try.cellsI : Try.prog.cellsOf 3 = 1 := by kernel_rfl
theorem Try.cellsD : Try.prog.cellsOf 24 = 3 := by kernel_rfl

def inI (x : Int) : Prop := -9223372036854775808 ≤ x ∧ x ≤ 9223372036854775807
theorem inI_of_wf {x : Int} (h : (Lit.int .i64 x).wf = true) : inI x := by
  have h1 : IntKind.i64.min = -9223372036854775808 := rfl
  have h2 : IntKind.i64.max = 9223372036854775807 := rfl
  simp only [Lit.wf, Bool.and_eq_true, decide_eq_true_eq] at h
  unfold inI; omega

section
variable {H : Type} {enc : TypeId × Value → H} {W : World}

set_option maxRecDepth 100000 in
/-- A slice of ints that comes in reads as a list. -/
theorem open_ri {fuel : Nat} {v : Value} {x : DataW H × List MemPlace} (h : DataW.trod enc Try.prog W 0 (fun _ => true) true fuel 22 [v] = some x) :
    ∃ A n c xs, v = .slice A n c ∧ RI W A n xs ∧ n ≤ 9223372036854775807 ∧ ∀ y ∈ xs, inI y := by
  rcases open_ints Try.underlying22 Try.underlying3 Try.cellsI h with ⟨hcs, _⟩ | ⟨a, len, cap, zs, hcs, _, hl, hm, hz, _, hcell, hwf⟩
  · injection hcs with hcs _
    exact ⟨none, 0, 0, [], hcs, RI.nil _ _, by omega, fun y hy => by cases hy⟩
  · injection hcs with hcs _
    simp only [if_true] at hz
    refine ⟨some a, len, cap, zs.take len, hcs, ⟨by rw [List.length_take]; omega, fun hn => ?_⟩, by unfold maxLen at hm; omega, fun y hy => inI_of_wf (hwf y (List.mem_of_mem_take hy))⟩
    have h0 := hcell 0 (by omega)
    obtain ⟨b, off, spot⟩ := a
    have hspot : spot = none := by simpa [Addr.add] using World.cell?_spot h0
    subst hspot
    refine ⟨b, off, rfl, ?_, fun j hj => ?_⟩
    · have := World.block_lt_of_cell? W _ h0
      simpa [Addr.add] using this
    · have := hcell j (by omega)
      rw [add_plain] at this
      rw [this]
      simp [List.getD, hj]

set_option maxRecDepth 100000 in
/-- A diagram that comes in. -/
theorem open_diag {base : Nat} {v : Value} {d : DataW H} {p : List MemPlace} (hv : Value.okWide Try.prog W .any base 24 v) (h : DataW.Trod enc Try.prog W 0 (fun _ => true) true 24 v d p) :
    ∃ A ns cs B nm cm lp signs mate, v = dval A ns cs B nm cm lp ∧ RI W A ns signs ∧ RI W B nm mate ∧ ns ≤ 9223372036854775807 ∧ nm ≤ 9223372036854775807 ∧ (∀ y ∈ signs, inI y) ∧ (∀ y ∈ mate, inI y) ∧ inI lp := by
  obtain ⟨c0, c1, c2, y0, y1, y2, m, rfl, _, _, hy0, hy1, hy2⟩ := open_agg3 Try.underlying24 (by kernel_rfl) Try.cellsD hv h
  obtain ⟨A, ns, cs, signs, rfl, r1, l1, q1⟩ := open_ri hy0
  obtain ⟨B, nm, cm, mate, rfl, r2, l2, q2⟩ := open_ri hy1
  obtain ⟨x, e0, _, wx⟩ := DataW.trod_int Try.underlying3 hy2
  simp at e0
  subst e0
  exact ⟨A, ns, cs, B, nm, cm, x, signs, mate, rfl, r1, r2, l1, l2, q1, q2, inI_of_wf wx⟩

set_option maxRecDepth 100000 in
theorem trodAll_keep {W' : World} (hb : Below W.heap.size W W') : ∀ {ts : List TypeId} {vs : List Value} {ds : List (DataW H)} {ps : List MemPlace}, (∀ t ∈ ts, Try.prog.readableRec t = true ∧ t < Try.prog.types.size) →
    (∀ x ∈ ps, x.block < W.heap.size) → DataW.TrodAll enc Try.prog W 0 (fun _ => true) true ts vs ds ps → DataW.TrodAll enc Try.prog W' 0 (fun b => decide (b < W.heap.size)) true ts vs ds ps
  | [], [], [], _, _, _, h => h
  | t :: ts, v :: vs, d :: ds, ps, hr, hlt, h => by
    obtain ⟨p, q, h1, h2, rfl⟩ := h
    obtain ⟨r1, r2⟩ := hr t (by simp)
    exact ⟨p, q, Below.trod Try.laidOut r1 r2 h1 hb (fun x hx => hlt x (by simp [hx])), trodAll_keep hb (fun t ht => hr t (by simp [ht])) (fun x hx => hlt x (by simp [hx])) h2, rfl⟩
  | [], _ :: _, _, _, _, _, h => h.elim
  | [], [], _ :: _, _, _, _, h => h.elim
  | _ :: _, [], _, _, _, _, h => h.elim
  | _ :: _, _ :: _, [], _, _, _, h => h.elim

set_option maxRecDepth 100000 in
/-- A law that answers true and leaves all below as it was meets its specification. -/
theorem law_post {f : Func} {s : ChangeSpec} {args : Array Value} {ds gs : List (DataW H)} {before : List MemPlace} {W' : World}
    (hres : f.resultTypes = #[4]) (hvars : s.vars = []) (hpar : ∀ t ∈ f.params.toList, Try.prog.readableRec t = true ∧ t < Try.prog.types.size)
    (hspec : (s.fn H (ds ++ gs)).results = [.lit (.bool true)] ∧ (s.fn H (ds ++ gs)).args = ds ∧ (s.fn H (ds ++ gs)).vars = [])
    (hW : DataW.Whole enc Try.prog f.params.toList s.vars false W args.toList ds gs before) (hb : Below W.heap.size W W') :
    s.post enc Try.prog f false true false false W args (.bool true) W' := by
  have hlt := fun x hx => hW.lt x hx
  obtain ⟨p, q, hA, hV, e, _⟩ := id hW
  rw [hvars] at hV
  obtain ⟨rfl, rfl⟩ := trodVars_none hV
  rw [List.append_nil] at e
  subst e
  refine ⟨ds, [], before, [], before, [], hW, ?_, ?_, ?_, hb.frame _, fun h => by cases h⟩
  · rw [hspec.1, hres]
    exact trodAll_mk1 (shut_bool Try.underlying4 true)
  · rw [hspec.2.1]
    exact trodAll_keep hb hpar hlt hA
  · rw [hvars, hspec.2.2]
    rfl
end

end Go.Proofs.Ytkfjledhnakfoaa
