import Derived.Test.YtambhopkacgddaaF11
import Derived.Test.YtambhopkacgddaaF08
import Derived.Test.YtambhopkacgddaaF09
import Derived.Test.YtambhopkacgddaaF10
import Derived.Test.YtambhopkacgddaaF03
import Derived.Maps.AppendAt
/- Walk of the reference's Valid. -/
namespace Go.Proofs.Ytambhopkacgddaa
open Go.RowKit

theorem sgnsB_bad {xs : List Int} {k : Nat} (hk : k < xs.length) (h : sgB (xs.getD k 0) = false) : sgnsB xs = false := by
  cases e : sgnsB xs with
  | false => rfl
  | true => rw [(sgnsB_iff xs).1 e k hk] at h; cases h
theorem pairB_bad {signs mate : List Int} {k : Nat} (hk : k < mate.length) (h : pOK signs mate k = false) : pairB signs mate = false := by
  cases e : pairB signs mate with
  | false => rfl
  | true => rw [(pairB_iff _ _).1 e k hk] at h; cases h
theorem validB_lim {signs mate : List Int} {lp : Int} (h : limB signs.length mate.length lp = false) : validB signs mate lp = false := by simp [validB, h]
theorem validB_sg {signs mate : List Int} {lp : Int} (h : sgnsB signs = false) : validB signs mate lp = false := by simp [validB, h]
theorem validB_pair {signs mate : List Int} {lp : Int} (h : pairB signs mate = false) : validB signs mate lp = false := by simp [validB, h]
theorem validB_sph {signs mate : List Int} {lp : Int} (h : sphM mate signs.length = false) : validB signs mate lp = false := by simp [validB, h]

def heads (f : Nat → Nat) (N : Nat) : List Nat := (List.range N).filter (fst f N)
theorem cycL_heads (f : Nat → Nat) (N : Nat) : cycL f N (fun _ => true) N = (heads f N).map (fun h => itl f h (per f N h)) := by
  unfold cycL heads
  rw [List.filter_congr fun h _ => sel_true f N h]
theorem heads_length (f : Nat → Nat) (N : Nat) : (cycL f N (fun _ => true) N).length = (heads f N).length := by rw [cycL_heads, List.length_map]
theorem cntF_heads (F f : Nat → Nat) (N l : Nat) : (heads f N).countP (fun h => F (h / 4) == l) = cntF F f N N l := by
  unfold heads cntF
  rw [List.countP_filter]
  exact List.countP_congr fun h _ => by simp [and_comm]
theorem heads_el (f : Nat → Nat) (N i : Nat) (hi : i < (heads f N).length) : (cycL f N (fun _ => true) N).getD i [] = itl f ((heads f N).getD i 0) (per f N ((heads f N).getD i 0)) := by
  rw [cycL_heads]
  simp [List.getD, hi]
theorem heads_lt (f : Nat → Nat) (N i : Nat) (hi : i < (heads f N).length) : (heads f N).getD i 0 < N := by
  have e : (heads f N).getD i 0 = (heads f N)[i] := by simp [List.getD, hi]
  rw [e]
  have := List.getElem_mem hi
  exact List.mem_range.1 (List.mem_filter.1 this).1
theorem countP_take_succ (p : Nat → Bool) (l : List Nat) (i : Nat) (hi : i < l.length) : (l.take (i + 1)).countP p = (l.take i).countP p + if p (l.getD i 0) then 1 else 0 := by
  have e : l.getD i 0 = l[i] := by simp [List.getD, hi]
  rw [List.take_succ_eq_append_getElem hi, List.countP_append, e]
  simp [List.countP_cons]

set_option maxHeartbeats 6400000 in
set_option maxRecDepth 100000 in
theorem rvalid_main (r : Bool) (A B : Option Addr) (ns cs nm cm : Nat) (lp : Int) (signs mate : List Int) (w : World) (h : DV w A ns B nm signs mate) (h1 : ns ≤ 64) (h2 : nm = 4 * ns) (h3 : 0 ≤ lp) (h4 : lp ≤ 64) (hr : r = validB signs mate lp) :
    Calls Try.prog 12 #[dval A ns cs B nm cm lp] w fun e w' => e = .returned (.bool r) ∧ Below w.heap.size w w' := by
  have hd := DB.new w A ns cs B nm cm lp
  have hb0 := below_alloc w (dbox A ns cs B nm cm lp)
  have hls := h.hs.1
  have hlm := h.hm.1
  have HR := Lib.hid hr
  have HNM := Lib.hid h2
  have HLS := Lib.hid hls
  have HLM := Lib.hid hlm
  have H := Lib.hid (h.keep hb0)
  have hE : (nm : Int) = 4 * (ns : Int) := by omega
  have hE' : ((nm : Int) != 4 * (ns : Int)) = false := by simp [hE]
  clear hr h hls hlm h2 hE
  go_enter Try.func12, Try.ntmps12
  obtain ⟨d0, d1, d2, dlt⟩ := hd
  generalize hwA : w.alloc (dbox A ns cs B nm cm lp) = wA at hb0 H d0 d1 d2 dlt
  go_upto_region 4 with (fail)
  clear hwA
  have hnsI : (ns : Int) ≤ 64 := by omega
  have HE1 : Hid (∀ j, j < 0 → sgB (signs.getD j 0) = true) := fun j hj => absurd hj (by omega)
  go_wp2
  go_loop [4] (fun i => ∃ k : Nat, k ≤ ns ∧ i = .int .i64 k ∧ Hid (∀ j, j < k → sgB (signs.getD j 0) = true)) (fun i => ns - (intOf i).toNat)
  case atStart => exact ⟨0, by omega, rfl, HE1⟩
  case round =>
    obtain ⟨k, hk, rfl, hall⟩ := hrel
    by_cases hlt : k < ns
    · obtain ⟨b, off, rfl, hbb, hc⟩ := H.out.hs.2 (by omega)
      have hck := hc k hlt
      have hk0 : (0 : Int) ≤ (k : Int) := Int.natCast_nonneg _
      have hk1 : (k : Int) < (ns : Int) := by omega
      cases hsg : sgB (signs.getD k 0) with
      | true =>
        have hall' : Hid (∀ j, j < k + 1 → sgB (signs.getD j 0) = true) := fun j hj => by
          by_cases e : j = k
          · subst e; exact hsg
          · exact hall.out j (by omega)
        clear hc
        generalize signs.getD k 0 = x at hck hsg
        have hcase : x = 1 ∨ x = -1 := by unfold sgB at hsg; simpa using hsg
        clear hsg
        rcases hcase with rfl | rfl
        all_goals
          go_wp2
          go_round
          case rel => exact ⟨k + 1, by omega, by go_num, hall'⟩
          case measure => simp [intOf]; omega
      | false =>
        obtain rfl : r = false := HR.out.trans (validB_sg (sgnsB_bad (by rw [HLS.out]; exact hlt) hsg))
        clear hc HR
        generalize signs.getD k 0 = x at hck hsg
        have hx1 : (x != 1) = true := by unfold sgB at hsg; simp at hsg; simp [hsg.1]
        have hx2 : (x != -1) = true := by unfold sgB at hsg; simp at hsg; simp [hsg.2]
        clear hsg
        go_wp2
        go_ret
        exact ⟨rfl, hb0⟩
    · obtain rfl : k = ns := by omega
      have HSG := Lib.hid ((sgnsB_iff signs).2 (by rw [HLS.out]; exact hall.out))
      have HE2 : Hid (∀ j, j < 0 → pOK signs mate j = true) := fun j hj => absurd hj (by omega)
      clear hlt hk hall HE1
      go_wp2
      go_loopw [5, 6] (fun i _ wr => ∃ q : Nat, q ≤ nm ∧ i = .int .i64 q ∧ Below wA.heap.size wA wr ∧ Hid (∀ j, j < q → pOK signs mate j = true)) (fun i _ _ => nm - (intOf i).toNat)
      case atStart => exact ⟨0, by omega, rfl, Below.refl _ _, HE2⟩
      case round =>
        obtain ⟨q, hq, rfl, hbr, hall⟩ := hrel
        have d0' := (hbr.cell (p := ⟨w.heap.size, 0, none⟩) dlt).trans d0
        have d1' := (hbr.cell (p := ⟨w.heap.size, 1, none⟩) dlt).trans d1
        have hq0 : (0 : Int) ≤ (q : Int) := Int.natCast_nonneg _
        by_cases hlt : q < nm
        · obtain ⟨b, off, rfl, hbb, hc⟩ := (H.out.hm.keep hbr).2 (by omega)
          have hsr := H.out.hs.keep hbr
          have hrange := H.out.hrange
          have hcq : wr.cell? ⟨b, off + q, none⟩ = some (.int .i64 (mt mate q)) := hc q hlt
          have hq1 : (q : Int) < (nm : Int) := by omega
          have hq4 : q / 4 < k := by have := HNM.out; omega
          have hq2 : (q : Int) < 4 * (k : Int) := by have := HNM.out; omega
          cases hp : pOK signs mate q with
          | true =>
            have hall' : Hid (∀ j, j < q + 1 → pOK signs mate j = true) := fun j hj => by
              by_cases e : j = q
              · subst e; exact hp
              · exact hall.out j (by omega)
            obtain ⟨m, hmk, hmlt, hmm, hne⟩ := pOK_out hp HLM.out
            have hcm : wr.cell? ⟨b, off + m, none⟩ = some (.int .i64 (mt mate m)) := hc m hmlt
            rw [hmk] at hcq
            rw [hmm] at hcm
            have hm4 : m / 4 < k := by have := HNM.out; omega
            have hmq : ((m : Int) == (q : Int)) = false := by
              simp only [beq_eq_false_iff_ne, ne_eq]
              intro e
              have : m = q := by omega
              subst this; exact hne rfl
            have C1 := Lib.hid (rout_any A k cs signs q wr.drew hsr hq4 (by omega))
            have C2 := Lib.hid (rout_any A k cs signs m wr.drew hsr hm4 (by omega))
            have hne' : outB signs m = !(outB signs q) := by cases h1 : outB signs q <;> cases h2 : outB signs m <;> simp_all
            rw [hne'] at C2
            clear hne hne' hc hmk hmm hp hsr hrange
            generalize outB signs q = p at C1 C2
            have hm0 : (0 : Int) ≤ (m : Int) := Int.natCast_nonneg _
            have hm0' : decide ((m : Int) < 0) = false := by simp only [decide_eq_false_iff_not]; omega
            have hm1'' : decide (4 * (k : Int) ≤ (m : Int)) = false := by have := HNM.out; simp only [decide_eq_false_iff_not]; omega
            have hm1' : (m : Int) < (nm : Int) := by omega
            have hw4 : IntKind.i64.wrap (4 * (k : Int)) = 4 * (k : Int) := IntWalk.i64_in _ (by omega)
            go_wp2
            go_region_held3 (fun w' => w'.cell? ⟨w.heap.size, 0, none⟩ = some (.slice A k cs) ∧ w'.cell? ⟨w.heap.size, 1, none⟩ = some (.slice (some ⟨b, off, none⟩) nm cm) ∧ w'.cell? ⟨b, off + m, none⟩ = some (.int .i64 (q : Int)))
              (go_keep)
              (first
                | (go_at_call 30; ((with_reducible refine C1.out.mono ?_); rintro e w' ⟨rfl, rfl⟩))
                | (go_at_call 30; ((with_reducible refine C2.out.mono ?_); rintro e w' ⟨rfl, rfl⟩)))
            go_wp2
            go_roundw
            case rel => exact ⟨q + 1, by omega, by go_num, hbr.drew, hall'⟩
            case measure => simp [intOf]; omega
          | false =>
            obtain rfl : r = false := HR.out.trans (validB_pair (pairB_bad (by rw [HLM.out]; exact hlt) hp))
            have hcase := pOK_bad hp HLM.out
            have hr0 := hrange q hlt
            have hbw := hb0.trans (hbr.mono hb0.size)
            have hw4 : IntKind.i64.wrap (4 * (k : Int)) = 4 * (k : Int) := IntWalk.i64_in _ (by omega)
            clear hp HR hall
            rcases hcase with hneg | hbig | ⟨m, hmk, hmlt, hrest⟩
            · have hx1 : decide (mt mate q < 0) = true := by simp only [decide_eq_true_eq]; omega
              clear hc hrange hsr
              generalize mt mate q = x at hcq hneg hx1 hr0
              obtain ⟨hr1, hr2⟩ := hr0
              go_wp2
              go_quiet (fail)
              go_wp2
              go_ret
              exact ⟨rfl, by first | exact hbw.drew | exact below_drewN hbw _⟩
            · have hx1 : decide (mt mate q < 0) = false := by simp only [decide_eq_false_iff_not]; omega
              have hx2 : decide (4 * (k : Int) ≤ mt mate q) = true := by have := HNM.out; simp only [decide_eq_true_eq]; omega
              clear hc hrange hsr
              generalize mt mate q = x at hcq hbig hx1 hx2 hr0
              obtain ⟨hr1, hr2⟩ := hr0
              go_wp2
              go_quiet (fail)
              go_wp2
              go_ret
              exact ⟨rfl, by first | exact hbw.drew | exact below_drewN hbw _⟩
            · have hm0 : (0 : Int) ≤ (m : Int) := Int.natCast_nonneg _
              have hm0' : decide ((m : Int) < 0) = false := by simp only [decide_eq_false_iff_not]; omega
              have hm1'' : decide (4 * (k : Int) ≤ (m : Int)) = false := by have := HNM.out; simp only [decide_eq_false_iff_not]; omega
              have hm1' : (m : Int) < (nm : Int) := by omega
              have hm4 : m / 4 < k := by have := HNM.out; omega
              by_cases hmq : m = q
              · subst hmq
                rw [hmk] at hcq
                clear hc hrange hsr hrest hmk hr0
                go_wp2
                go_quiet (fail)
                go_wp2
                go_ret
                exact ⟨rfl, by first | exact hbw.drew | exact below_drewN hbw _⟩
              · have hmqb : ((m : Int) == (q : Int)) = false := by simp only [beq_eq_false_iff_ne, ne_eq]; omega
                have hcm : wr.cell? ⟨b, off + m, none⟩ = some (.int .i64 (mt mate m)) := hc m hmlt
                have hrm := hrange m hmlt
                rw [hmk] at hcq
                rcases hrest with hne | ⟨heq, hout⟩
                · have hx : (mt mate m != (q : Int)) = true := by simp [hne]
                  clear hc hrange hsr hmk hr0
                  generalize mt mate m = x at hcm hx hne hrm
                  go_wp2
                  go_quiet (fail)
                  go_wp2
                  go_ret
                  exact ⟨rfl, by first | exact hbw.drew | exact below_drewN hbw _⟩
                · rw [heq] at hcm
                  have C1 := Lib.hid (rout_any A k cs signs q wr.drew hsr hq4 (by omega))
                  have C2 := Lib.hid (rout_any A k cs signs m wr.drew hsr hm4 (by omega))
                  rw [hout] at C2
                  clear hout heq hc hmk hrange hsr hr0 hrm
                  generalize outB signs q = p at C1 C2
                  go_wp2
                  go_region_held3 (fun w' => w'.cell? ⟨w.heap.size, 0, none⟩ = some (.slice A k cs) ∧ w'.cell? ⟨w.heap.size, 1, none⟩ = some (.slice (some ⟨b, off, none⟩) nm cm) ∧ w'.cell? ⟨b, off + m, none⟩ = some (.int .i64 (q : Int)))
                    (go_keep)
                    (first
                      | (go_at_call 30; ((with_reducible refine C1.out.mono ?_); rintro e w' ⟨rfl, rfl⟩))
                      | (go_at_call 30; ((with_reducible refine C2.out.mono ?_); rintro e w' ⟨rfl, rfl⟩)))
                  go_wp2
                  go_ret
                  exact ⟨rfl, by first | exact hbw.drew | exact below_drewN hbw _⟩
        · obtain rfl : q = nm := by omega
          have HPB := Lib.hid ((pairB_iff signs mate).2 (by rw [HLM.out]; exact hall.out))
          have HM := Lib.hid (matesOf_mates HPB.out HLM.out)
          have HI := Lib.hid (show Invol (matesOf mate) (4 * k) from by have := matesOf_invol HPB.out HLM.out; rwa [HNM.out] at this)
          have HP := Lib.hid (show Perm (ff (matesOf mate)) q from by rw [HNM.out]; exact HI.out.perm 3)
          have hq256 : q ≤ 256 := by have := HNM.out; omega
          have hge : 4 * (k : Int) ≤ (q : Int) := by have := HNM.out; omega
          clear hlt hq hall HE2
          have CL := Lib.hid (label_any B q cm k mate (matesOf mate) wr (H.out.hm.keep hbr) HM.out HNM.out hq256)
          go_wp2_with (first
            | (go_at_call 31; ((with_reducible refine CL.out.mono ?_); rintro e w2 ⟨vl, rfl, hol, hb2⟩; have hbr2 := below_step hbr hb2; have d0'' := (hbr2.cell (p := ⟨w.heap.size, 0, none⟩) dlt).trans d0; have d1'' := (hbr2.cell (p := ⟨w.heap.size, 1, none⟩) dlt).trans d1; have CF := Lib.hid (rfaces_any B q cm mate (matesOf mate) w2 (H.out.hm.keep hbr2) HM.out HP.out hq256)))
            | (go_at_call 32; ((with_reducible refine CF.out.mono ?_); rintro e w3 ⟨vf, rfl, hof, hb3⟩)))
          have hbw3 := below_step (below_step hb0 hbr2) hb3
          have hol3 := hol.keep hb3
          obtain ⟨Af, cf, rfl, hrf⟩ := hof.ro
          rw [heads_length] at hrf
          have FL := Lib.hid (fun c (hc : c < k) => labAt_eq (m := matesOf mate) (F := ufLab (matesOf mate) q) HNM.out (fun h hh => (HM.out h hh).2) (ufLab_isLab (matesOf mate) q k) c hc)
          have HE3 : Hid (∀ j, j < 0 → labAt (matesOf mate) q k j = j → cntF (labAt (matesOf mate) q k) (ff (matesOf mate)) q q j = cntV (labAt (matesOf mate) q k) k j + 2) := fun j hj => absurd hj (by omega)
          clear hol hof d0'' d1'' d0' d1' hb2 hb3 hbr2 hbr CL
          have FC := Lib.hid (fun c (hc : c < k) => lab_le (matesOf mate) q k c)
          have HLAB := Lib.hid (show ufLab (matesOf mate) q = ufLab (matesOf mate) q from rfl)
          generalize hF : labAt (matesOf mate) q k = F at *
          clear hF HLAB
          have hlenI : ((List.range k).map fun i => (F i : Int)).length = k := by simp
          have hgetI : ∀ c, c < k → ((List.range k).map fun i => (F i : Int)).getD c 0 = (F c : Int) := fun c hc => by simp [List.getD, hc]
          have HG := Lib.hid hgetI
          have HLI := Lib.hid hlenI
          have HOL := Lib.hid hol3
          have HRF := Lib.hid hrf
          rw [heads_length]
          have hnf : (heads (ff (matesOf mate)) q).length ≤ 256 := by rw [← heads_length]; exact Nat.le_trans (cycL_length _ _ _ _) hq256
          clear hlenI hgetI hol3 hrf
          go_loop [9, 10, 11, 12, 13] (fun i _ _ _ _ => ∃ c : Nat, c ≤ k ∧ i = .int .i64 c ∧ Hid (∀ j, j < c → F j = j → cntF F (ff (matesOf mate)) q q j = cntV F k j + 2)) (fun i _ _ _ _ => k - (intOf i).toNat)
          case atStart => exact ⟨0, by omega, rfl, HE3⟩
          case round =>
            obtain ⟨c, hc, rfl, hall⟩ := hrel
            have hc0 : (0 : Int) ≤ (c : Int) := Int.natCast_nonneg _
            by_cases hlt : c < k
            · obtain ⟨gl, cl, rfl⟩ := HOL.out.form_pos HLI.out (by omega)
              have hcell : ∀ b, b < k → w3.cell? ⟨gl, b, none⟩ = some (.int .i64 (F b : Nat)) := fun b hb => by
                rw [HOL.out.cell b (by rw [HLI.out]; exact hb), HG.out b hb]
              have HCE := Lib.hid hcell
              have hcc := hcell c hlt
              have hFle : F c ≤ c := FC.out c hlt
              clear hcell
              have hc1 : (c : Int) < (k : Int) := by omega
              by_cases hFc : F c = c
              · rw [hFc] at hcc
                have HFc := Lib.hid hFc
                clear hFc hFle
                go_wp2
                go_loop [10, 12] (fun v i => ∃ b : Nat, b ≤ k ∧ i = .int .i64 b ∧ v = .int .i64 (cntV F b c : Nat)) (fun _ i => k - (intOf i).toNat)
                case atStart => exact ⟨0, by omega, rfl, rfl⟩
                case round =>
                  obtain ⟨b, hb, rfl, rfl⟩ := hrel
                  have hb0' : (0 : Int) ≤ (b : Int) := Int.natCast_nonneg _
                  by_cases hbl : b < k
                  · have hcb := HCE.out b hbl
                    have hb1 : (b : Int) < (k : Int) := by omega
                    have hvle := cntV_le F b c
                    have hsucc := cntV_succ F b c
                    by_cases hFb : F b = c
                    · rw [hFb] at hcb
                      have HS := Lib.hid (show cntV F (b + 1) c = cntV F b c + 1 from by rw [hsucc, hFb]; simp)
                      clear hsucc hFb
                      generalize cntV F b c = v at *
                      have hv0 : (0 : Int) ≤ (v : Int) := Int.natCast_nonneg _
                      go_wp2
                      go_round
                      case rel => exact ⟨b + 1, by omega, by go_num, by rw [HS.out]; go_num⟩
                      case measure => simp [intOf]; omega
                    · have hne : ((F b : Int) == (c : Int)) = false := by simp only [beq_eq_false_iff_ne, ne_eq]; omega
                      have HS := Lib.hid (show cntV F (b + 1) c = cntV F b c from by rw [hsucc]; simp [hFb])
                      clear hsucc hFb
                      generalize cntV F b c = v at *
                      generalize F b = x at *
                      go_wp2
                      go_round
                      case rel => exact ⟨b + 1, by omega, by go_num, by rw [HS.out]⟩
                      case measure => simp [intOf]; omega
                  · obtain rfl : k = b := by omega
                    go_wp2
                    go_loop [11, 13] (fun f i => ∃ e : Nat, e ≤ (heads (ff (matesOf mate)) q).length ∧ i = .int .i64 e ∧ f = .int .i64 (((heads (ff (matesOf mate)) q).take e).countP (fun h => F (h / 4) == c) : Nat)) (fun _ i => (heads (ff (matesOf mate)) q).length - (intOf i).toNat)
                    case atStart => exact ⟨0, by omega, rfl, rfl⟩
                    case round =>
                      obtain ⟨e, he, rfl, rfl⟩ := hrel
                      have he0 : (0 : Int) ≤ (e : Int) := Int.natCast_nonneg _
                      by_cases hel : e < (heads (ff (matesOf mate)) q).length
                      · have he1 : (e : Int) < ((heads (ff (matesOf mate)) q).length : Int) := by omega
                        obtain ⟨bf, of, rfl, hbf⟩ := HRF.out.at_ (by omega)
                        obtain ⟨A', n', c', hsl, hri⟩ := HRF.out.el e hel
                        have hhd := heads_lt (ff (matesOf mate)) q e hel
                        rw [heads_el _ _ _ hel] at hri
                        have hsucc := countP_take_succ (fun h => F (h / 4) == c) (heads (ff (matesOf mate)) q) e hel
                        generalize (heads (ff (matesOf mate)) q).getD e 0 = hd at *
                        have hpos := per_pos (ff (matesOf mate)) q hd
                        have hn' : n' = per (ff (matesOf mate)) q hd := by rw [← hri.1, itl_length]
                        obtain ⟨bb, ob, rfl, _, hcb⟩ := hri.2 (by omega)
                        have hc0' := hcb 0 (by omega)
                        rw [itl_getD _ _ _ _ hpos] at hc0'
                        have hit0 : it (ff (matesOf mate)) 0 hd = hd := rfl
                        rw [hit0] at hc0'
                        simp only [Nat.add_zero] at hc0'
                        have hn1 : (0 : Int) < (n' : Int) := by omega
                        have hn1' : 0 < n' := by omega
                        have hd4 : hd / 4 < k := by have := HNM.out; omega
                        have hcf := HCE.out (hd / 4) hd4
                        have hhd0 : (0 : Int) ≤ (hd : Int) := Int.natCast_nonneg _
                        have hd41 : (hd : Int) / 4 < (k : Int) := by omega
                        have hw1 : IntKind.i64.wrap ((hd : Int) / 4) = (hd : Int) / 4 := IntWalk.i64_in _ (by omega)
                        have hfle : ((heads (ff (matesOf mate)) q).take e).countP (fun h => F (h / 4) == c) ≤ e := Nat.le_trans List.countP_le_length (by simp; omega)
                        clear hri hcb hn' hit0 hpos
                        by_cases hFb : F (hd / 4) = c
                        · rw [hFb] at hcf
                          have HS := Lib.hid (show ((heads (ff (matesOf mate)) q).take (e + 1)).countP (fun h => F (h / 4) == c) = ((heads (ff (matesOf mate)) q).take e).countP (fun h => F (h / 4) == c) + 1 from by rw [hsucc, hFb]; simp)
                          clear hsucc hFb
                          generalize ((heads (ff (matesOf mate)) q).take e).countP (fun h => F (h / 4) == c) = f at *
                          have hf0 : (0 : Int) ≤ (f : Int) := Int.natCast_nonneg _
                          go_wp2
                          go_round
                          case rel => exact ⟨e + 1, by omega, by go_num, by rw [HS.out]; go_num⟩
                          case measure => simp [intOf]; omega
                        · have hne : ((F (hd / 4) : Int) == (c : Int)) = false := by simp only [beq_eq_false_iff_ne, ne_eq]; omega
                          have HS := Lib.hid (show ((heads (ff (matesOf mate)) q).take (e + 1)).countP (fun h => F (h / 4) == c) = ((heads (ff (matesOf mate)) q).take e).countP (fun h => F (h / 4) == c) from by rw [hsucc]; simp [hFb])
                          clear hsucc hFb
                          generalize ((heads (ff (matesOf mate)) q).take e).countP (fun h => F (h / 4) == c) = f at *
                          generalize F (hd / 4) = x at *
                          go_wp2
                          go_round
                          case rel => exact ⟨e + 1, by omega, by go_num, by rw [HS.out]⟩
                          case measure => simp [intOf]; omega
                      · have hee : e = (heads (ff (matesOf mate)) q).length := by omega
                        subst hee
                        have hcnt : ((heads (ff (matesOf mate)) q).take (heads (ff (matesOf mate)) q).length).countP (fun h => F (h / 4) == c) = cntF F (ff (matesOf mate)) q q c := by
                          rw [List.take_length]; exact cntF_heads F (ff (matesOf mate)) q c
                        have hv1 := cntV_le F k c
                        have hv2 := cntF_le F (ff (matesOf mate)) q q c
                        rw [hcnt]
                        have HCN := Lib.hid (show Hid (F c = c) from HFc)
                        by_cases heq : cntF F (ff (matesOf mate)) q q c = cntV F k c + 2
                        · have hall' : Hid (∀ j, j < c + 1 → F j = j → cntF F (ff (matesOf mate)) q q j = cntV F k j + 2) := fun j hj e => by
                            by_cases e' : j = c
                            · subst e'; exact heq
                            · exact hall.out j (by omega) e
                          rw [heq]
                          clear heq hcnt hel he hall hv2
                          generalize cntV F k c = v at *
                          have hv0 : (0 : Int) ≤ (v : Int) := Int.natCast_nonneg _
                          go_wp2
                          go_round
                          case rel => exact ⟨c + 1, by omega, by go_num, hall'⟩
                          case measure => simp [intOf]; omega
                        · have hsf : sphM mate signs.length = false := by
                            cases hs : sphM mate signs.length with
                            | false => rfl
                            | true =>
                              unfold sphM at hs
                              rw [HLM.out, HLS.out] at hs
                              have hs2 : sphB F (ff (matesOf mate)) q k = true := by
                                rw [← hs, HNM.out]
                                exact sphB_congr fun x hx => by have := FL.out x hx; rw [HNM.out] at this; exact this
                              have := (sphB_iff _ _ _ _).1 hs2 c hlt
                              rw [HFc.out] at this
                              exact absurd this heq
                          obtain rfl : r = false := HR.out.trans (validB_sph hsf)
                          have hbne : ((cntF F (ff (matesOf mate)) q q c : Int) != (cntV F k c : Int) + 2) = true := by simp only [bne_iff_ne, ne_eq]; omega
                          clear heq hcnt hel he hall HR hsf
                          generalize cntF F (ff (matesOf mate)) q q c = f at *
                          generalize cntV F k c = v at *
                          have hv0 : (0 : Int) ≤ (v : Int) := Int.natCast_nonneg _
                          go_wp2
                          go_ret
                          exact ⟨rfl, hbw3⟩
              · have hne : ((F c : Int) != (c : Int)) = true := by simp only [bne_iff_ne, ne_eq]; omega
                have hall' : Hid (∀ j, j < c + 1 → F j = j → cntF F (ff (matesOf mate)) q q j = cntV F k j + 2) := fun j hj e => by
                  by_cases e' : j = c
                  · subst e'; exact absurd e hFc
                  · exact hall.out j (by omega) e
                clear hFc hFle
                generalize F c = x at *
                go_wp2
                go_round
                case rel => exact ⟨c + 1, by omega, by go_num, hall'⟩
                case measure => simp [intOf]; omega
            · obtain rfl : c = k := by omega
              have hst : sphM mate signs.length = true := by
                unfold sphM
                rw [HLM.out, HLS.out]
                have hs2 : sphB F (ff (matesOf mate)) q c = true := (sphB_iff _ _ _ _).2 fun x hx => by
                  have hx1 := FL.out x hx
                  have hlab := ufLab_isLab (matesOf mate) q c
                  obtain ⟨hl1, hl2⟩ := hlab.1 x hx
                  have hFx : F x < c := by rw [hx1]; omega
                  have hid : F (F x) = F x := by rw [FL.out (F x) hFx, hx1]; exact (hlab.conn hl2).symm
                  exact hall.out (F x) hFx hid
                rw [← hs2, HNM.out]
                exact (sphB_congr fun x hx => by have := FL.out x hx; rw [HNM.out] at this; exact this.symm)
              have hvt : validB signs mate lp = true := by
                unfold validB
                rw [hst, HSG.out, HPB.out, HLS.out, HLM.out]
                simp [limB, h1, h3, h4, HNM.out]
              obtain rfl : r = true := HR.out.trans hvt
              clear hlt hc hall HR hst hvt
              go_wp2
              go_ret
              exact ⟨rfl, hbw3⟩

end Go.Proofs.Ytambhopkacgddaa

/- The reference's Valid, for every diagram; Out. -/
namespace Go.Proofs.Ytambhopkacgddaa
open Go.RowKit

set_option maxHeartbeats 1600000 in
set_option maxRecDepth 100000 in
theorem rvalid_lim (A B : Option Addr) (ns cs nm cm : Nat) (lp : Int) (w : World) (hns : ns ≤ 100000000000000) (hnm : nm ≤ 100000000000000) (hl : limB ns nm lp = false) :
    Calls Try.prog 12 #[dval A ns cs B nm cm lp] w fun e w' => e = .returned (.bool false) ∧ Below w.heap.size w w' := by
  by_cases h1 : ns ≤ 64
  · by_cases h2 : nm = 4 * ns
    · subst h2
      by_cases h3 : 0 ≤ lp
      · have h4' : 64 < lp := by
          by_cases h4 : lp ≤ 64
          · simp [limB, *] at hl
          · omega
        clear hl
        go_enter Try.func12, Try.ntmps12
        go_wp2
        go_ret
        exact ⟨rfl, below_alloc _ _⟩
      · have h4' : lp < 0 := by omega
        clear hl h3
        go_enter Try.func12, Try.ntmps12
        go_wp2
        go_ret
        exact ⟨rfl, below_alloc _ _⟩
    · have h4 : ((nm : Int) != 4 * (ns : Int)) = true := by simp only [bne_iff_ne, ne_eq]; omega
      clear hl h2
      go_enter Try.func12, Try.ntmps12
      go_wp2
      go_ret
      exact ⟨rfl, below_alloc _ _⟩
  · have h4' : 64 < ns := by omega
    clear hl h1
    go_enter Try.func12, Try.ntmps12
    go_wp2
    go_ret
    exact ⟨rfl, below_alloc _ _⟩

theorem DV.rvalid {w : World} {A B : Option Addr} {ns nm : Nat} {signs mate : List Int} (h : DV w A ns B nm signs mate) (cs cm : Nat) (lp : Int) (r : Bool) (hr : validB signs mate lp = r) :
    Calls Try.prog 12 #[dval A ns cs B nm cm lp] w fun e w' => e = .returned (.bool r) ∧ Below w.heap.size w w' := by
  cases hl : limB ns nm lp with
  | true =>
    obtain ⟨l1, l2, l3, l4⟩ := limB_out hl
    exact rvalid_main r A B ns cs nm cm lp signs mate w h l1 l2 l3 l4 hr.symm
  | false =>
    have : r = false := by
      rw [← hr]; exact validB_lim (by rw [h.hs.1, h.hm.1]; exact hl)
    subst this
    exact rvalid_lim A B ns cs nm cm lp w h.hns h.hnm hl


end Go.Proofs.Ytambhopkacgddaa

/- Walk: all lists of signs with which a code can be drawn. -/
namespace Go.Proofs.Ytambhopkacgddaa
open Go.ChangeShapes Go.WideShapes Go.ChangeAt Go.RowKit Go.Joins

theorem mkM_rangeS {code s : List Int} {n : Nat} (h : dvB code = true) (hn : code.length = n) (hs : sgnsB s = true) (hl : s.length = n) (j : Nat) : -9223372036854775808 ≤ mt (mkM code s) j ∧ mt (mkM code s) j ≤ 9223372036854775807 := by
  have hlen := mkM_len (code := code) (s := s) hn
  have h64 := ((dvB_iff code).1 h).2.1
  rcases Nat.lt_or_ge j (4 * n) with hj | hj
  · have hm := matesOf_mates (pair_mk h hn hs hl) hlen j hj
    unfold mt
    rw [hm.1]
    omega
  · have e : mt (mkM code s) j = 0 := by unfold mt; simp [List.getD, show (mkM code s).length ≤ j by omega]
    rw [e]; omega

set_option maxHeartbeats 6400000 in
set_option maxRecDepth 100000 in
theorem all_any (C : Option Addr) (n cc : Nat) (code : List Int) (w : World) (hC : RI w C n code) (h7 : n ≤ 7) (hI : inL code) (hv : dvB code = true) :
    Calls Try.prog 20 #[.slice C n cc] w (CycsPost w (allK code n (2 ^ n))) := by
  have hl := hC.1
  have hpos : 0 < n := by have := (dvB_iff code).1 hv; omega
  have h2n : 2 ^ n ≤ 128 := Nat.le_trans (Nat.pow_le_pow_right (by decide) h7) (by decide)
  obtain ⟨N, hN⟩ : ∃ N, 2 ^ n = N := ⟨_, rfl⟩
  have HN := Lib.hid hN
  rw [hN] at h2n ⊢
  have HC := Lib.hid hC
  have HI := Lib.hid hI
  have HV := Lib.hid hv
  have HL := Lib.hid hl
  clear hC hI hv hl
  have hn1 : (n : Int) ≤ 7 := by omega
  have hn0 : 0 < (n : Int) := by omega
  have hN1 : (N : Int) ≤ 128 := by omega
  have hcv : IntKind.u64.wrap (n : Int) = (n : Int) := by rw [IntKind.wrap_u64]; omega
  have hsh : (1 : Int) * 2 ^ n = (N : Int) := by rw [← hN]; simp
  have hsh2 : (2 : Int) ^ n = (N : Int) := by rw [← hN]; simp
  have hwN : IntKind.i64.wrap (N : Int) = (N : Int) := IntWalk.i64_in _ (by omega)
  clear hN
  go_enter Try.func20, Try.ntmps20
  go_wp2
  go_loopw [4, 5, 6, 7] (fun v b _ _ wr => ∃ k : Nat, k ≤ N ∧ b = .int .i64 k ∧ Below w.heap.size w wr ∧ OO wr w.heap.size v (allK code n k)) (fun _ b _ _ _ => N - (intOf b).toNat)
  case atStart => exact ⟨0, by omega, rfl, Below.refl _ _, OO.nil _ _⟩
  case round =>
    obtain ⟨k, hk, rfl, hbr, hoo⟩ := hrel
    by_cases hlt : k < N
    · have hk0 : (0 : Int) ≤ (k : Int) := Int.natCast_nonneg _
      have hk1 : (k : Int) < (N : Int) := by omega
      obtain ⟨wC, hwC⟩ : ∃ wC : World, wC = wr := ⟨_, rfl⟩
      subst hwC
      have HOO := Lib.hid hoo
      clear hoo
      go_wp2
      go_loopw [6, 7] (fun v i wr => ∃ j : Nat, j ≤ n ∧ i = .int .i64 j ∧ Below wC.heap.size wC wr ∧ OI wr wC.heap.size v ((bitL n k).take j)) (fun _ i _ => n - (intOf i).toNat)
      case atStart => exact ⟨0, by omega, rfl, Below.refl _ _, OI.nil _ _⟩
      case round =>
        obtain ⟨j, hj, rfl, hbj, hoi⟩ := hrel
        by_cases hjl : j < n
        · obtain ⟨d, hd⟩ : ∃ d, n - 1 - j = d := ⟨_, rfl⟩
          have hdi : (n : Int) - 1 - (j : Int) = (d : Int) := by omega
          have hcd : IntKind.u64.wrap (d : Int) = (d : Int) := by rw [IntKind.wrap_u64]; omega
          have hd63 : (d : Int) < 64 := by omega
          have htake : (bitL n k).take (j + 1) = (bitL n k).take j ++ [if k / 2 ^ d % 2 = 0 then 1 else -1] := by
            rw [List.take_succ_eq_append_getElem (by rw [bitL_length]; exact hjl)]
            congr 2
            rw [← hd]; simp [bitL]
          have htl : ((bitL n k).take j).length ≤ 7 := by rw [List.length_take]; omega
          have HOI := Lib.hid hoi
          have hj0 : (0 : Int) ≤ (j : Int) := Int.natCast_nonneg _
          have hj1 : (j : Int) < (n : Int) := by omega
          have hd0 : (0 : Int) ≤ (d : Int) := Int.natCast_nonneg _
          have hz : (k : Int) / 2 ^ d = ((k / 2 ^ d : Nat) : Int) := by simp
          by_cases hb : k / 2 ^ d % 2 = 0
          · have hbit : (((k : Int) / 2 ^ d).tmod 2 == 0) = true := by
              rw [hz, Int.tmod_eq_emod_of_nonneg (Int.natCast_nonneg _)]
              generalize k / 2 ^ d = z at hb
              simp; omega
            rw [if_pos hb] at htake
            have HTK := Lib.hid htake
            clear htake hoi hd hb hz
            go_wp2_with (at_builtin
                         refine wpList_append_int rfl (.tmp 31) (.tmp 32) rfl wC.heap.size u6 ((bitL n k).take j) rfl (HOI.out.alloc _) wr.heap.size (1) rfl (by rw [World.cell?_alloc_at _ _ _ _ rfl]; rfl) (by omega) (by have := hbj.size; simp; omega) ?_
                         intro v7 w7 ho7 hg7
                         have hb7 : Below wC.heap.size wC w7 := (hbj.alloc hbj.size (.cells #[.int .i64 (1)] 3)).grown hg7 (by have := hbj.size; simp; omega) (fun q hq => (World.ownsRow.lt HOI.out q hq).1)
                         have HO7 := Lib.hid ho7
                         clear ho7 hg7)
            go_roundw
            case rel => exact ⟨j + 1, by omega, by go_num, hb7, by rw [HTK.out]; exact HO7.out⟩
            case measure => simp [intOf]; omega
          · have hbit : (((k : Int) / 2 ^ d).tmod 2 == 0) = false := by
              rw [hz, Int.tmod_eq_emod_of_nonneg (Int.natCast_nonneg _)]
              generalize k / 2 ^ d = z at hb
              simp; omega
            rw [if_neg hb] at htake
            have HTK := Lib.hid htake
            clear htake hoi hd hb hz
            go_wp2_with (at_builtin
                         refine wpList_append_int rfl (.tmp 34) (.tmp 35) rfl wC.heap.size u6 ((bitL n k).take j) rfl (HOI.out.alloc _) wr.heap.size (-1) rfl (by rw [World.cell?_alloc_at _ _ _ _ rfl]; rfl) (by omega) (by have := hbj.size; simp; omega) ?_
                         intro v7 w7 ho7 hg7
                         have hb7 : Below wC.heap.size wC w7 := (hbj.alloc hbj.size (.cells #[.int .i64 (-1)] 3)).grown hg7 (by have := hbj.size; simp; omega) (fun q hq => (World.ownsRow.lt HOI.out q hq).1)
                         have HO7 := Lib.hid ho7
                         clear ho7 hg7)
            go_roundw
            case rel => exact ⟨j + 1, by omega, by go_num, hb7, by rw [HTK.out]; exact HO7.out⟩
            case measure => simp [intOf]; omega
        · obtain rfl : j = n := by omega
          rw [List.take_of_length_le (by rw [bitL_length]; exact Nat.le_refl _)] at hoi
          obtain ⟨g6, c6, rfl⟩ := hoi.form_pos (bitL_length j k) hpos
          have hsg := bitL_sg j k
          have hln := bitL_length j k
          have hri := hoi.ri
          have hkv := allK_succ code j k
          have hbw : Below w.heap.size w wr := hbr.trans (hbj.mono hbr.size)
          have CD := Lib.hid (rdrawn_any (some ⟨g6, 0, none⟩) C j c6 cc code (bitL j k) wr (HC.out.keep hbw) hri (by omega) HI.out HV.out hsg)
          have hrange := mkM_rangeS HV.out HL.out hsg hln
          have HRG := Lib.hid hrange
          have HKV := Lib.hid hkv
          have HOI := Lib.hid hoi
          have hoo2 := HOO.out.keep hbj
          have HOO2 := Lib.hid hoo2
          have hlen := allK_le code j k
          obtain ⟨l, hll⟩ : ∃ l, bitL j k = l := ⟨_, rfl⟩
          have hnl : ¬ j < j := by omega
          cases hvv : dkV code (bitL j k) with
          | false =>
            have CV : ∀ (W : World) (S : Option Addr) (sc gM : Nat), RI W S j (bitL j k) → RI W (some ⟨gM, 0, none⟩) (4 * j) (mkM code (bitL j k)) → Hid (Calls Try.prog 12 #[dval S j sc (some ⟨gM, 0, none⟩) (4 * j) (4 * j) 0] W fun e w' => e = .returned (.bool false) ∧ Below W.heap.size W w') := fun W S sc gM h1 h2 =>
              DV.rvalid ⟨h1, h2, by omega, by omega, fun i _ => HRG.out i⟩ sc (4 * j) 0 false hvv
            have HE : Hid (allK code j (k + 1) = allK code j k) := Lib.hid (by rw [HKV.out, hvv]; simp)
            clear hvv hkv hsg hln hri hrange hoi hoo2 hll hjl hj hnl
            go_wp2_with (first
              | (go_at_call 22; ((with_reducible refine CD.out.mono ?_); rintro e w2 ⟨S2, sc2, gM2, rfl, h1, h2, hb2⟩))
              | (go_at_call 12; ((with_reducible refine (CV _ _ _ _ h1 h2).out.mono ?_); rintro e w3 ⟨rfl, hb3⟩)))
            go_roundw
            case rel => exact ⟨k + 1, by omega, by go_num, below_step (below_step hbw hb2) hb3, by rw [HE.out]; exact (HOO2.out.keep hb2).keep hb3⟩
            case measure => simp [intOf]; omega
          | true =>
            have CV : ∀ (W : World) (S : Option Addr) (sc gM : Nat), RI W S j (bitL j k) → RI W (some ⟨gM, 0, none⟩) (4 * j) (mkM code (bitL j k)) → Hid (Calls Try.prog 12 #[dval S j sc (some ⟨gM, 0, none⟩) (4 * j) (4 * j) 0] W fun e w' => e = .returned (.bool true) ∧ Below W.heap.size W w') := fun W S sc gM h1 h2 =>
              DV.rvalid ⟨h1, h2, by omega, by omega, fun i _ => HRG.out i⟩ sc (4 * j) 0 true hvv
            have HE : Hid (allK code j (k + 1) = allK code j k ++ [bitL j k]) := Lib.hid (by rw [HKV.out, hvv]; simp)
            have HSZ := Lib.hid hbr.size
            clear hvv hkv hsg hln hri hrange hoi hoo2 hll hjl hj hnl
            go_wp2_with (first
              | (go_at_call 22; ((with_reducible refine CD.out.mono ?_); rintro e w2 ⟨S2, sc2, gM2, rfl, h1, h2, hb2⟩; have hbw2 := below_step hbw hb2; have HO2 := Lib.hid (HOI.out.keep hb2); have HR2 := Lib.hid (HOO2.out.keep hb2)))
              | (go_at_call 12; ((with_reducible refine (CV _ _ _ _ h1 h2).out.mono ?_); rintro e w3 ⟨rfl, hb3⟩; have hbw3 := below_step hbw2 hb3; have HO3 := Lib.hid (HO2.out.keep hb3); have HR3 := Lib.hid (HR2.out.keep hb3)))
              | (at_builtin
                 refine wpList_append_row rfl (.tmp 41) (.tmp 43) rfl w.heap.size u4 (allK code j k) rfl (HR3.out.keep (below_alloc _ _)) w3.heap.size (.slice (some ⟨g6, 0, none⟩) j c6) (bitL j k) rfl (by rw [World.cell?_alloc_at _ _ _ _ rfl]; rfl) ((HO3.out.mono HSZ.out).alloc _) (by omega) (by have := hbw3.size; simp; omega) ?_
                 intro v4 w4 ho4 hg4
                 have hb4 : Below w.heap.size w w4 := (hbw3.alloc hbw3.size (.cells #[.slice (some ⟨g6, 0, none⟩) j c6] 22)).grown hg4 (by have := hbw3.size; simp; omega) (fun q hq => (HR3.out.lt q hq).1)))
            go_roundw
            case rel => exact ⟨k + 1, by omega, by go_num, hb4, by rw [HE.out]; exact ho4⟩
            case measure => simp [intOf]; omega
    · obtain rfl : k = N := by omega
      have HOO := Lib.hid hoo
      clear hoo hlt hk
      go_wp2
      go_ret
      exact ⟨_, rfl, HOO.out, hbr⟩

end Go.Proofs.Ytambhopkacgddaa

/- Walk: the reference's Equal. -/
namespace Go.Proofs.Ytambhopkacgddaa
open Go.RowKit

def eqD (s m : List Int) (lp : Int) (s' m' : List Int) (lp' : Int) : Bool := decide (s = s') && decide (m = m') && decide (lp = lp')

set_option maxHeartbeats 1600000 in
theorem requal_any (A B A' B' : Option Addr) (ns cs nm cm ns' cs' nm' cm' : Nat) (lp lp' : Int) (s m s' m' : List Int) (w : World) (hs : RI w A ns s) (hm : RI w B nm m) (hs' : RI w A' ns' s') (hm' : RI w B' nm' m')
    (h1 : ns ≤ 1000000000000000) (h2 : nm ≤ 1000000000000000) (h3 : ns' ≤ 1000000000000000) (h4 : nm' ≤ 1000000000000000) :
    Calls Try.prog 21 #[dval A ns cs B nm cm lp, dval A' ns' cs' B' nm' cm' lp'] w fun e w' => e = .returned (.bool (eqD s m lp s' m' lp')) ∧ Below w.heap.size w w' := by
  have hba := below_alloc w (dbox A ns cs B nm cm lp)
  have hbb := below_alloc (w.alloc (dbox A ns cs B nm cm lp)) (dbox A' ns' cs' B' nm' cm' lp')
  have hb0 := below_step hba hbb
  have hd := (DB.new w A ns cs B nm cm lp).keep hbb
  have hd' := DB.new (w.alloc (dbox A ns cs B nm cm lp)) A' ns' cs' B' nm' cm' lp'
  have hsz : (w.alloc (dbox A ns cs B nm cm lp)).heap.size = w.heap.size + 1 := by simp
  rw [hsz] at hd'
  obtain ⟨d0, d1, d2, dlt⟩ := hd
  obtain ⟨e0, e1, e2, elt⟩ := hd'
  have C1 : ∀ W : World, Below w.heap.size w W → Hid (Calls Try.prog 14 #[.slice A ns cs, .slice A' ns' cs'] W fun e w' => e = .returned (.bool (decide (s = s'))) ∧ Below W.heap.size W w') := fun W hb => ints_r (decide (s = s')) A A' ns cs ns' cs' s s' W (hs.keep hb) (hs'.keep hb) h1 h3 rfl
  have C2 : ∀ W : World, Below w.heap.size w W → Hid (Calls Try.prog 14 #[.slice B nm cm, .slice B' nm' cm'] W fun e w' => e = .returned (.bool (decide (m = m'))) ∧ Below W.heap.size W w') := fun W hb => ints_r (decide (m = m')) B B' nm cm nm' cm' m m' W (hm.keep hb) (hm'.keep hb) h2 h4 rfl
  clear hba hbb hs hm hs' hm' h1 h2 h3 h4 hsz
  unfold eqD
  by_cases hss : s = s'
  · have es : decide (s = s') = true := by simp [hss]
    rw [es] at C1 ⊢
    by_cases hmm : m = m'
    · have em : decide (m = m') = true := by simp [hmm]
      rw [em] at C2 ⊢
      by_cases hl : lp = lp'
      · have el : decide (lp = lp') = true := by simp [hl]
        rw [el]
        subst hl
        clear hss hmm es em el
        go_enter Try.func21, Try.ntmps21
        go_wp2_with (first
          | (go_at_call 14; ((with_reducible refine (C1 _ hb0).out.mono ?_); rintro e w1 ⟨rfl, hb1⟩; have f0 := (hb1.cell (p := ⟨w.heap.size, 1, none⟩) dlt).trans d1; have f1 := (hb1.cell (p := ⟨w.heap.size, 2, none⟩) dlt).trans d2; have g0 := (hb1.cell (p := ⟨w.heap.size + 1, 1, none⟩) elt).trans e1; have g1 := (hb1.cell (p := ⟨w.heap.size + 1, 2, none⟩) elt).trans e2; have dlt1 := Nat.lt_of_lt_of_le dlt hb1.size; have elt1 := Nat.lt_of_lt_of_le elt hb1.size))
          | (go_at_call 14; ((with_reducible refine (C2 _ (below_step hb0 hb1)).out.mono ?_); rintro e w2 ⟨rfl, hb2⟩; have k0 := (hb2.cell (p := ⟨w.heap.size, 2, none⟩) dlt1).trans f1; have k1 := (hb2.cell (p := ⟨w.heap.size + 1, 2, none⟩) elt1).trans g1)))
        go_ret
        exact ⟨rfl, below_step (below_step hb0 hb1) hb2⟩
      · have el : decide (lp = lp') = false := by simp [hl]
        have el' : (lp == lp') = false := by simp only [beq_eq_false_iff_ne, ne_eq]; exact hl
        rw [el]
        clear hss hmm es em el
        go_enter Try.func21, Try.ntmps21
        go_wp2_with (first
          | (go_at_call 14; ((with_reducible refine (C1 _ hb0).out.mono ?_); rintro e w1 ⟨rfl, hb1⟩; have f0 := (hb1.cell (p := ⟨w.heap.size, 1, none⟩) dlt).trans d1; have f1 := (hb1.cell (p := ⟨w.heap.size, 2, none⟩) dlt).trans d2; have g0 := (hb1.cell (p := ⟨w.heap.size + 1, 1, none⟩) elt).trans e1; have g1 := (hb1.cell (p := ⟨w.heap.size + 1, 2, none⟩) elt).trans e2; have dlt1 := Nat.lt_of_lt_of_le dlt hb1.size; have elt1 := Nat.lt_of_lt_of_le elt hb1.size))
          | (go_at_call 14; ((with_reducible refine (C2 _ (below_step hb0 hb1)).out.mono ?_); rintro e w2 ⟨rfl, hb2⟩; have k0 := (hb2.cell (p := ⟨w.heap.size, 2, none⟩) dlt1).trans f1; have k1 := (hb2.cell (p := ⟨w.heap.size + 1, 2, none⟩) elt1).trans g1)))
        go_ret
        exact ⟨rfl, below_step (below_step hb0 hb1) hb2⟩
    · have em : decide (m = m') = false := by simp [hmm]
      rw [em] at C2 ⊢
      clear hss hmm es em
      go_enter Try.func21, Try.ntmps21
      go_wp2_with (first
        | (go_at_call 14; ((with_reducible refine (C1 _ hb0).out.mono ?_); rintro e w1 ⟨rfl, hb1⟩; have f0 := (hb1.cell (p := ⟨w.heap.size, 1, none⟩) dlt).trans d1; have f1 := (hb1.cell (p := ⟨w.heap.size, 2, none⟩) dlt).trans d2; have g0 := (hb1.cell (p := ⟨w.heap.size + 1, 1, none⟩) elt).trans e1; have g1 := (hb1.cell (p := ⟨w.heap.size + 1, 2, none⟩) elt).trans e2; have dlt1 := Nat.lt_of_lt_of_le dlt hb1.size; have elt1 := Nat.lt_of_lt_of_le elt hb1.size))
        | (go_at_call 14; ((with_reducible refine (C2 _ (below_step hb0 hb1)).out.mono ?_); rintro e w2 ⟨rfl, hb2⟩; have k0 := (hb2.cell (p := ⟨w.heap.size, 2, none⟩) dlt1).trans f1; have k1 := (hb2.cell (p := ⟨w.heap.size + 1, 2, none⟩) elt1).trans g1)))
      go_ret
      exact ⟨rfl, below_step (below_step hb0 hb1) hb2⟩
  · have es : decide (s = s') = false := by simp [hss]
    rw [es] at C1 ⊢
    clear hss es
    go_enter Try.func21, Try.ntmps21
    go_wp2_with (first
      | (go_at_call 14; ((with_reducible refine (C1 _ hb0).out.mono ?_); rintro e w1 ⟨rfl, hb1⟩; have f0 := (hb1.cell (p := ⟨w.heap.size, 1, none⟩) dlt).trans d1; have f1 := (hb1.cell (p := ⟨w.heap.size, 2, none⟩) dlt).trans d2; have g0 := (hb1.cell (p := ⟨w.heap.size + 1, 1, none⟩) elt).trans e1; have g1 := (hb1.cell (p := ⟨w.heap.size + 1, 2, none⟩) elt).trans e2; have dlt1 := Nat.lt_of_lt_of_le dlt hb1.size; have elt1 := Nat.lt_of_lt_of_le elt hb1.size))
      | (go_at_call 14; ((with_reducible refine (C2 _ (below_step hb0 hb1)).out.mono ?_); rintro e w2 ⟨rfl, hb2⟩; have k0 := (hb2.cell (p := ⟨w.heap.size, 2, none⟩) dlt1).trans f1; have k1 := (hb2.cell (p := ⟨w.heap.size + 1, 2, none⟩) elt1).trans g1)))
    go_ret
    exact ⟨rfl, below_step hb0 hb1⟩

end Go.Proofs.Ytambhopkacgddaa

/- Words for memory: a slice of slices of the call's own, whose rows lie apart. -/
namespace Go.Proofs.Ytambhopkacgddaa
open Go.RowKit

/-- append of one int, and where the new slice lies. -/
theorem wpList_append_int_at {ops : Array Oper} {rest : List Oper} {o : Oper} {a : Act} {w : World} {Q : Exit → Act → World → Prop} (hgd : o.guard = none) (s x : Operand)
    (ho : o.op = .call { callee := .builtin .append, args := #[s, x], argTypes := #[22, 22] }) (B : Nat) (v : Value) (xs : List Int) (hs : a.eval s = v) (hown : OI w B v xs)
    (g : Nat) (y : Int) (hx : a.eval x = .slice (some ⟨g, 0, none⟩) 1 1) (hc : w.cell? ⟨g, 0, none⟩ = some (.int .i64 y)) (hlen : xs.length ≤ 1000000000) (hbase : B ≤ w.heap.size)
    (h : ∀ v' w', OI w' B v' (xs ++ [y]) → w.grownBy w' v.ownBlock → (v'.ownBlock = v.ownBlock ∨ v'.ownBlock = some w.heap.size) → wpList Try.prog ops Q rest (a.put o.dst v') w') : wpList Try.prog ops Q (o :: rest) a w := by
  obtain ⟨i0, hi, hz0, hz1, hz2⟩ := info_parts Try.infoInt
  refine wpList_append_own_at w hgd s x 22 ho B 3 i0 (.int .i64 0) 1 8 Try.underlying22 hi hz0 hz1 hz2 rfl (by decide) v xs.length (ints xs) hs hown ⟨g, 0, none⟩ 1 1 [.int .i64 y] hx rfl ?_ ?_ (by unfold maxLen; omega) (by omega) hbase ?_
  · intro j u hj
    match j, hj with
    | 0, hj => simp at hj; subst hj; simpa [Addr.add] using hc
  · intro u hu; simp at hu; subst hu; rfl
  · intro v' w' h1 h2 _ h4
    refine h v' w' ?_ h2 h4
    unfold OI
    simpa [ints] using h1

structure OD (w : World) (B : Nat) (v : Value) (vs : List Value) (xss : List (List Int)) : Prop where
  row : ownRow w B 22 v vs
  len : vs.length = xss.length
  el : ∀ i, i < xss.length → OI w B (vs.getD i undef) (xss.getD i [])
  apart : ∀ i j, i < xss.length → j < xss.length → i ≠ j → (vs.getD i undef).ownBlock = none ∨ (vs.getD i undef).ownBlock ≠ (vs.getD j undef).ownBlock
theorem OD.oo {w : World} {B : Nat} {v : Value} {vs : List Value} {xss : List (List Int)} (h : OD w B v vs xss) : OO w B v xss := ⟨vs, h.row, h.len, h.el⟩
theorem OD.nil (w : World) (B : Nat) : OD w B (.slice none 0 0) [] [] := ⟨World.ownsRow_nil w B _ _, rfl, fun i hi => absurd hi (by simp), fun i j hi => absurd hi (by simp)⟩
theorem OD.keep {w w' : World} {B : Nat} {v : Value} {vs : List Value} {xss : List (List Int)} (h : OD w B v vs xss) (hb : Below w.heap.size w w') : OD w' B v vs xss :=
  ⟨h.row.keep hb, h.len, fun i hi => (h.el i hi).keep hb, h.apart⟩
theorem OD.far {w : World} {B g n : Nat} {e : TypeId} {v : Value} {vs : List Value} {xss : List (List Int)} {V : Nat → Value} (h : OD w B v vs xss) (k : Arr w g e n V) (he : e ≠ 3) (he' : e ≠ 22) (j : Nat) (u : Value) : OD (w.setCell ⟨g, j, none⟩ u) B v vs xss :=
  ⟨h.row.far (h.row.ne_arr k he') u, h.len, fun i hi => (h.el i hi).far ((h.el i hi).ne_arr k he) u, h.apart⟩
theorem OD.form {w : World} {B : Nat} {v : Value} {vs : List Value} {xss : List (List Int)} (h : OD w B v vs xss) (hk : 0 < xss.length) : ∃ g cap, v = .slice (some ⟨g, 0, none⟩) xss.length cap ∧ B ≤ g ∧ g < w.heap.size := by
  rcases h.row.2 with ⟨_, h4⟩ | ⟨g, cap, cur, h4, hg, h5, _⟩
  · have := h.len; omega
  · refine ⟨g, cap, by rw [h4, h.len], hg, ?_⟩
    rcases Nat.lt_or_ge g w.heap.size with hlt | hge
    · exact hlt
    · rw [Array.getElem?_eq_none hge] at h5; cases h5

/-- append of one slice. -/
theorem wpList_append_row_od {ops : Array Oper} {rest : List Oper} {o : Oper} {a : Act} {w : World} {Q : Exit → Act → World → Prop} (hgd : o.guard = none) (s x : Operand)
    (ho : o.op = .call { callee := .builtin .append, args := #[s, x], argTypes := #[37, 37] }) (B : Nat) (v : Value) (vs : List Value) (xss : List (List Int)) (hs : a.eval s = v) (hown : OD w B v vs xss)
    (g : Nat) (hx : a.eval x = .slice (some ⟨g, 0, none⟩) 1 1) (hc : w.cell? ⟨g, 0, none⟩ = some (.slice none 0 0)) (hlen : xss.length ≤ 1000000000) (hbase : B ≤ w.heap.size)
    (h : ∀ v' w', OD w' B v' (vs ++ [.slice none 0 0]) (xss ++ [[]]) → w.grownBy w' v.ownBlock → wpList Try.prog ops Q rest (a.put o.dst v') w') : wpList Try.prog ops Q (o :: rest) a w := by
  obtain ⟨i0, hi, hz0, hz1, hz2⟩ := info_parts Try.infoSlice
  have h2 := hown.len
  refine wpList_append_own w hgd s x 37 ho B 22 i0 (.slice none 0 0) 1 24 Try.underlying37 hi hz0 hz1 hz2 rfl (by decide) v vs.length vs hs hown.row ⟨g, 0, none⟩ 1 1 [.slice none 0 0] hx rfl ?_ ?_ (by unfold maxLen; omega) (by omega) hbase ?_
  · intro j u hj
    match j, hj with
    | 0, hj => simp at hj; subst hj; simpa [Addr.add] using hc
  · intro u hu; simp at hu; subst hu; rfl
  · intro v' w' k1 k2 _
    have eL : ∀ i, i < xss.length → (vs ++ [Value.slice none 0 0]).getD i undef = vs.getD i undef := fun i e => by simp [List.getD, List.getElem?_append_left (show i < vs.length by omega)]
    have eN : (vs ++ [Value.slice none 0 0]).getD xss.length undef = .slice none 0 0 := by simp [List.getD, ← h2]
    refine h v' w' ⟨by unfold ownRow; simpa using k1, by simp [h2], fun i hi => ?_, fun i j hi hj hij => ?_⟩ k2
    · simp only [List.length_append, List.length_cons, List.length_nil] at hi
      by_cases e : i < xss.length
      · have e2 : (xss ++ [[]]).getD i [] = xss.getD i [] := by simp [List.getD, List.getElem?_append_left e]
        rw [eL i e, e2]
        exact (hown.el i e).grown k2 ((hown.el i e).ne_row hown.row (by decide))
      · have ei : i = xss.length := by omega
        subst ei
        have e2 : (xss ++ [[]]).getD xss.length [] = [] := by simp [List.getD]
        rw [eN, e2]
        exact OI.nil _ _
    · simp only [List.length_append, List.length_cons, List.length_nil] at hi hj
      by_cases ei : i < xss.length
      · rw [eL i ei]
        by_cases ej : j < xss.length
        · rw [eL j ej]; exact hown.apart i j ei ej hij
        · obtain rfl : j = xss.length := by omega
          rw [eN]
          cases hb : (vs.getD i undef).ownBlock with
          | none => exact .inl rfl
          | some q => exact .inr (by simp [Value.ownBlock])
      · obtain rfl : i = xss.length := by omega
        rw [eN]; exact .inl rfl

/-- Row k is replaced by an appended one. -/
theorem OD.set_ {w w' : World} {B k g n cap : Nat} {v' : Value} {vs : List Value} {xss : List (List Int)} {ys : List Int} (h : OD w B (.slice (some ⟨g, 0, none⟩) n cap) vs xss) (hk : k < xss.length)
    (hv : OI w' B v' ys) (hg : w.grownBy w' (vs.getD k undef).ownBlock) (hat : v'.ownBlock = (vs.getD k undef).ownBlock ∨ v'.ownBlock = some w.heap.size) :
    OD (w'.setCell ⟨g, k, none⟩ v') B (.slice (some ⟨g, 0, none⟩) n cap) (vs.set k v') (xss.set k ys) ∧ (∃ u, w'.cell? ⟨g, k, none⟩ = some u) ∧ w'.frozen? ⟨g, k, none⟩ = false := by
  have hlen := h.len
  have hrow : ownRow w' B 22 (.slice (some ⟨g, 0, none⟩) n cap) vs := World.ownsRow.kept h.row hg (by
    refine .inr fun e => ?_
    rcases (h.el k hk).ne_row h.row (by decide) with h1 | h1
    · rw [h1] at e; cases e
    · exact h1 e.symm)
  have hn : n = vs.length := by
    rcases hrow.2 with ⟨h1, _⟩ | ⟨g', cap', cur, h1, _⟩
    · cases h1
    · injection h1
  subst hn
  have hst := World.ownsRow.stored hrow k v'
  have hother : ∀ i, i < xss.length → i ≠ k → OI w' B (vs.getD i undef) (xss.getD i []) := fun i hi hik =>
    (h.el i hi).grown hg (h.apart i k hi hk hik)
  have hne3 : ∀ {u : Value} {zs : List Int}, OI w' B u zs → u.ownBlock ≠ some g := fun ho => by
    rcases ho.ne_row hrow (by decide) with h1 | h1
    · rw [h1]; simp
    · simpa [Value.ownBlock] using h1
  have eK : (vs.set k v').getD k undef = v' := by simp [List.getD, hlen, hk]
  have eO : ∀ i, i ≠ k → (vs.set k v').getD i undef = vs.getD i undef := fun i hik => by simp [List.getD, List.getElem?_set_ne (Ne.symm hik)]
  have apK : ∀ i, i < xss.length → i ≠ k → (vs.getD i undef).ownBlock = none ∨ (vs.getD i undef).ownBlock ≠ v'.ownBlock := fun i hi hik => by
    rcases hat with e | e
    · rw [e]; exact h.apart i k hi hk hik
    · cases hb : (vs.getD i undef).ownBlock with
      | none => exact .inl rfl
      | some q =>
        refine .inr fun e' => ?_
        rw [e] at e'
        have := (World.ownsRow.lt (h.el i hi) q hb).2
        injection e' with e'
        omega
  refine ⟨⟨?_, by simp [hlen], fun i hi => ?_, fun i j hi hj hij => ?_⟩, ?_, World.ownsRow.frozenAt hrow k⟩
  · have := hst.1
    unfold ownRow
    simpa using this
  · simp only [List.length_set] at hi
    by_cases e : i = k
    · subst e
      have e2 : (xss.set i ys).getD i [] = ys := by simp [List.getD, hi]
      rw [eK, e2]
      exact hv.far (p := ⟨g, i, none⟩) (hne3 hv) _
    · have e2 : (xss.set k ys).getD i [] = xss.getD i [] := by simp [List.getD, List.getElem?_set_ne (Ne.symm e)]
      rw [eO i e, e2]
      exact (hother i hi e).far (p := ⟨g, k, none⟩) (hne3 (hother i hi e)) _
  · simp only [List.length_set] at hi hj
    by_cases ei : i = k
    · subst ei
      rw [eK, eO j (Ne.symm hij)]
      rcases apK j hj (Ne.symm hij) with h1 | h1
      · cases hb : v'.ownBlock with
        | none => exact .inl rfl
        | some q => exact .inr (by rw [h1]; simp)
      · exact .inr (Ne.symm h1)
    · rw [eO i ei]
      by_cases ej : j = k
      · subst ej; rw [eK]; exact apK i hi ei
      · rw [eO j ej]; exact h.apart i j hi hj hij
  · have := World.ownsRow.cellAt hrow k (by omega)
    rw [this]
    exact ⟨_, List.getElem?_eq_getElem (by omega)⟩
theorem OD.cell {w : World} {B k g n cap : Nat} {vs : List Value} {xss : List (List Int)} (h : OD w B (.slice (some ⟨g, 0, none⟩) n cap) vs xss) (hk : k < xss.length) : w.cell? ⟨g, k, none⟩ = some (vs.getD k undef) := by
  have hn : n = vs.length := by
    rcases h.row.2 with ⟨h1, _⟩ | ⟨g', cap', cur, h1, _⟩
    · cases h1
    · injection h1
  have hl := h.len
  subst hn
  have := World.ownsRow.cellAt h.row k (by omega)
  rw [this, List.getElem?_eq_getElem (by omega)]
  have hkv : k < vs.length := by omega
  simp [List.getD, hkv]

end Go.Proofs.Ytambhopkacgddaa
