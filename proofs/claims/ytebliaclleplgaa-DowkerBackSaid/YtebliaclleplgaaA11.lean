import Derived.Test.YtebliaclleplgaaA05
import Derived.Test.YtebliaclleplgaaA01
import Derived.Deep.LoopGhost
import Derived.Test.YtebliaclleplgaaA03
import Derived.ProofKit
import Derived.Lib.SmallJoins
import Derived.Test.YtebliaclleplgaaA10
import Derived.Test.YtebliaclleplgaaA06
import Derived.Test.YtebliaclleplgaaA02
import Derived.Maps.AppendAt
/- Walk: the reference's Valid of a code. -/
namespace Go.Proofs.Ytebliaclleplgaa
open Go.RowKit

set_option maxHeartbeats 3200000 in
set_option maxRecDepth 100000 in
theorem rdvalid_r (r : Bool) (A : Option Addr) (n c : Nat) (code : List Int) (w : World) (hs : RI w A n code) (hn : n ≤ 9223372036854775807) (hI : inL code) (hr : r = dvB code) :
    Calls Try.prog 8 #[.slice A n c] w fun e w' => e = .returned (.bool r) ∧ w = w' := by
  have hl := hs.1
  by_cases h0 : 1 ≤ n ∧ n ≤ 64
  · obtain ⟨h1, h64⟩ := h0
    obtain ⟨b, off, rfl, hb, hc⟩ := hs.2 (by omega)
    have HD := Lib.hid (dv_cnt hl hI h1 h64)
    have HR := Lib.hid hr
    have HC := Lib.hid hc
    clear hr hI hl hs hc
    have hn1 : ¬ (n : Int) < 1 := by omega
    have hn0 : 0 < (n : Int) := by omega
    have hn2 : (n : Int) ≤ 64 := by omega
    go_enter Try.func8, Try.ntmps8
    go_wp2
    go_loop [4, 5, 6] (fun u _ _ => ∃ t : Nat, t ≤ n ∧ u = .int .i64 (2 * (t : Int) + 2) ∧ ∀ t' : Nat, t' < t → cntW code (2 * (t' : Int) + 2) n = 1) (fun u _ _ => (2 * (n : Int) + 2 - intOf u).toNat)
    case atStart => exact ⟨0, by omega, rfl, fun t' h => absurd h (by omega)⟩
    case round =>
      obtain ⟨t, ht, rfl, hok⟩ := hrel
      have HOK := Lib.hid hok
      clear hok
      by_cases hlt : t < n
      · obtain ⟨v, hv⟩ : ∃ v, 2 * (t : Int) + 2 = v := ⟨_, rfl⟩
        have hv1 : 2 ≤ v := by omega
        have hv2 : v ≤ 2 * (n : Int) := by omega
        rw [hv]
        have HV := Lib.hid hv
        have hneg : IntKind.i64.wrap (-v) = -v := IntWalk.i64_in _ (by omega)
        clear hv
        go_wp2
        go_loop [5, 6] (fun f i => ∃ k : Nat, k ≤ n ∧ i = .int .i64 k ∧ f = .int .i64 (cntW code v k : Nat)) (fun _ i => n - (intOf i).toNat)
        case atStart => exact ⟨0, by omega, rfl, rfl⟩
        case round =>
          obtain ⟨k, hk, rfl, rfl⟩ := hrel
          by_cases hkl : k < n
          · have hcell := HC.out k hkl
            have hsucc := cntW_succ code v k
            have hle := cntW_le code v k
            obtain ⟨y, hy⟩ : ∃ y, code.getD k 0 = y := ⟨_, rfl⟩
            rw [hy] at hcell hsucc
            obtain ⟨m, hm⟩ : ∃ m, cntW code v k = m := ⟨_, rfl⟩
            rw [hm] at hsucc hle ⊢
            have HSU := Lib.hid hsucc
            have hm0 : (0 : Int) ≤ (m : Int) := Int.natCast_nonneg _
            have hm1 : (m : Int) ≤ 64 := by omega
            have hk0 : (0 : Int) ≤ (k : Int) := Int.natCast_nonneg _
            have hk1 : (k : Int) < (n : Int) := by omega
            clear hsucc hle hy hm
            by_cases q1 : y = v
            · have e : Hid (((m : Nat) : Int) + 1 = ((cntW code v (k + 1) : Nat) : Int)) := by
                have := HSU.out; rw [if_pos (by simp [q1])] at this; rw [this]; show _ = _; omega
              subst q1
              go_wp2
              go_round
              case rel => exact ⟨k + 1, by omega, by go_num, by rw [e.out]⟩
              case measure => simp [intOf]; omega
            · have q1' : (y == v) = false := by simpa using q1
              by_cases q2 : y = -v
              · have e : Hid (((m : Nat) : Int) + 1 = ((cntW code v (k + 1) : Nat) : Int)) := by
                  have := HSU.out; rw [if_pos (by simp [q2])] at this; rw [this]; show _ = _; omega
                have q2' : (y == -v) = true := by simpa using q2
                clear q2 q1
                go_wp2
                go_round
                case rel => exact ⟨k + 1, by omega, by go_num, by rw [e.out]⟩
                case measure => simp [intOf]; omega
              · have e : Hid (m = cntW code v (k + 1)) := by
                  have := HSU.out; rw [if_neg (by simp [q1, q2])] at this; rw [this]; show _ = _; omega
                have q2' : (y == -v) = false := by simpa using q2
                clear q2 q1
                go_wp2
                go_round
                case rel => exact ⟨k + 1, by omega, by go_num, by rw [← e.out]⟩
                case measure => simp [intOf]; omega
          · obtain rfl : n = k := by omega
            have hle := cntW_le code v n
            have hcn : cntW code v n = 1 ∨ (cntW code v n : Int) ≠ 1 := by omega
            rcases hcn with q | q
            · have hall : ∀ t' : Nat, t' < t + 1 → cntW code (2 * (t' : Int) + 2) n = 1 := fun t' h => by
                by_cases e : t' = t
                · subst e; rw [HV.out]; exact q
                · exact HOK.out t' (by omega)
              have HALL := Lib.hid hall
              have hw2 : IntKind.i64.wrap (v + 2) = v + 2 := IntWalk.i64_in _ (by omega)
              have HW : Hid (v + 2 = 2 * ((t + 1 : Nat) : Int) + 2) := by have := HV.out; show _ = _; push_cast; omega
              rw [q]
              clear hall q hle hkl hk
              go_wp2
              go_round
              case rel => exact ⟨t + 1, by omega, by rw [HW.out], HALL.out⟩
              case measure => have := HW.out; have := HV.out; simp [intOf]; omega
            · have e : r = false := by
                rw [HR.out]
                cases qq : dvB code with
                | false => rfl
                | true => have := HD.out.1 qq t hlt; rw [HV.out] at this; omega
              have HE := Lib.hid e
              obtain ⟨m, hm⟩ : ∃ m : Int, (cntW code v n : Int) = m := ⟨_, rfl⟩
              rw [hm] at q ⊢
              have q' : (m == 1) = false := by simpa using q
              clear e q hm hle hkl hk
              go_wp2
              go_ret
              exact ⟨ret_bool HE.out.symm, rfl⟩
      · obtain rfl : t = n := by omega
        have e : r = true := by
          rw [HR.out]; exact HD.out.2 HOK.out
        have HE := Lib.hid e
        clear e hlt ht
        go_wp2
        go_ret
        exact ⟨ret_bool HE.out.symm, rfl⟩
  · have e : r = false := by
      rw [hr]
      cases q : dvB code with
      | false => rfl
      | true => have := (dvB_iff _).1 q; omega
    have HE := Lib.hid e
    clear e hr hI hs hl
    by_cases h1 : n < 1
    · have h1' : (n : Int) < 1 := by omega
      clear h0
      go_enter Try.func8, Try.ntmps8
      go_wp2
      go_ret
      exact ⟨ret_bool HE.out.symm, rfl⟩
    · have h1' : ¬ (n : Int) < 1 := by omega
      have h2' : 64 < (n : Int) := by omega
      clear h0
      go_enter Try.func8, Try.ntmps8
      go_wp2
      go_ret
      exact ⟨ret_bool HE.out.symm, rfl⟩

end Go.Proofs.Ytebliaclleplgaa

/- Opening a diagram that comes in, and shutting a law's call. -/
namespace Go.Proofs.Ytebliaclleplgaa
open Go.ChangeShapes Go.WideShapes Go.ChangeAt Go.RowKit Go.Joins

theorem Try.own : ownKnob Try.prog.godebug = none := by kernel_rfl
theorem Try.laidOut : laidOutB Try.prog = true := by kernel_rfl
theorem Try.cellsI : Try.prog.cellsOf 3 = 1 := by kernel_rfl
theorem Try.cellsD : Try.prog.cellsOf 24 = 3 := by kernel_rfl

def inI (x : Int) : Prop := -9223372036854775808 ≤ x ∧ x ≤ 9223372036854775807
theorem inI_of_wf {x : Int} (h : (Lit.int .i64 x).wf = true) : inI x := by
  have h1 : IntKind.i64.min = -9223372036854775808 := rfl
  have h2 : IntKind.i64.max = 9223372036854775807 := rfl
  simp only [Lit.wf, Bool.and_eq_true, decide_eq_true_eq] at h
  unfold inI; omega

section
variable {H : Type} {enc : TypeId × Value → H} {W : World}

set_option maxRecDepth 100000 in
/-- A slice of ints that comes in reads as a list. -/
theorem open_ri {fuel : Nat} {v : Value} {x : DataW H × List MemPlace} (h : DataW.trod enc Try.prog W 0 (fun _ => true) true fuel 22 [v] = some x) :
    ∃ A n c xs, v = .slice A n c ∧ RI W A n xs ∧ n ≤ 9223372036854775807 ∧ ∀ y ∈ xs, inI y := by
  rcases open_ints Try.underlying22 Try.underlying3 Try.cellsI h with ⟨hcs, _⟩ | ⟨a, len, cap, zs, hcs, _, hl, hm, hz, _, hcell, hwf⟩
  · injection hcs with hcs _
    exact ⟨none, 0, 0, [], hcs, RI.nil _ _, by omega, fun y hy => by cases hy⟩
  · injection hcs with hcs _
    simp only [if_true] at hz
    refine ⟨some a, len, cap, zs.take len, hcs, ⟨by rw [List.length_take]; omega, fun hn => ?_⟩, by unfold maxLen at hm; omega, fun y hy => inI_of_wf (hwf y (List.mem_of_mem_take hy))⟩
    have h0 := hcell 0 (by omega)
    obtain ⟨b, off, spot⟩ := a
    have hspot : spot = none := by simpa [Addr.add] using World.cell?_spot h0
    subst hspot
    refine ⟨b, off, rfl, ?_, fun j hj => ?_⟩
    · have := World.block_lt_of_cell? W _ h0
      simpa [Addr.add] using this
    · have := hcell j (by omega)
      rw [add_plain] at this
      rw [this]
      simp [List.getD, hj]

set_option maxRecDepth 100000 in
/-- A diagram that comes in. -/
theorem open_diag {base : Nat} {v : Value} {d : DataW H} {p : List MemPlace} (hv : Value.okWide Try.prog W .any base 24 v) (h : DataW.Trod enc Try.prog W 0 (fun _ => true) true 24 v d p) :
    ∃ A ns cs B nm cm lp signs mate, v = dval A ns cs B nm cm lp ∧ RI W A ns signs ∧ RI W B nm mate ∧ ns ≤ 9223372036854775807 ∧ nm ≤ 9223372036854775807 ∧ (∀ y ∈ signs, inI y) ∧ (∀ y ∈ mate, inI y) ∧ inI lp := by
  obtain ⟨c0, c1, c2, y0, y1, y2, m, rfl, _, _, hy0, hy1, hy2⟩ := open_agg3 Try.underlying24 (by kernel_rfl) Try.cellsD hv h
  obtain ⟨A, ns, cs, signs, rfl, r1, l1, q1⟩ := open_ri hy0
  obtain ⟨B, nm, cm, mate, rfl, r2, l2, q2⟩ := open_ri hy1
  obtain ⟨x, e0, _, wx⟩ := DataW.trod_int Try.underlying3 hy2
  simp at e0
  subst e0
  exact ⟨A, ns, cs, B, nm, cm, x, signs, mate, rfl, r1, r2, l1, l2, q1, q2, inI_of_wf wx⟩

set_option maxRecDepth 100000 in
theorem trodAll_keep {W' : World} (hb : Below W.heap.size W W') : ∀ {ts : List TypeId} {vs : List Value} {ds : List (DataW H)} {ps : List MemPlace}, (∀ t ∈ ts, Try.prog.readableRec t = true ∧ t < Try.prog.types.size) →
    (∀ x ∈ ps, x.block < W.heap.size) → DataW.TrodAll enc Try.prog W 0 (fun _ => true) true ts vs ds ps → DataW.TrodAll enc Try.prog W' 0 (fun b => decide (b < W.heap.size)) true ts vs ds ps
  | [], [], [], _, _, _, h => h
  | t :: ts, v :: vs, d :: ds, ps, hr, hlt, h => by
    obtain ⟨p, q, h1, h2, rfl⟩ := h
    obtain ⟨r1, r2⟩ := hr t (by simp)
    exact ⟨p, q, Below.trod Try.laidOut r1 r2 h1 hb (fun x hx => hlt x (by simp [hx])), trodAll_keep hb (fun t ht => hr t (by simp [ht])) (fun x hx => hlt x (by simp [hx])) h2, rfl⟩
  | [], _ :: _, _, _, _, _, h => h.elim
  | [], [], _ :: _, _, _, _, h => h.elim
  | _ :: _, [], _, _, _, _, h => h.elim
  | _ :: _, _ :: _, [], _, _, _, h => h.elim

set_option maxRecDepth 100000 in
/-- A law that answers true and leaves all below as it was meets its specification. -/
theorem law_post {f : Func} {s : ChangeSpec} {args : Array Value} {ds gs : List (DataW H)} {before : List MemPlace} {W' : World}
    (hres : f.resultTypes = #[4]) (hvars : s.vars = []) (hpar : ∀ t ∈ f.params.toList, Try.prog.readableRec t = true ∧ t < Try.prog.types.size)
    (hspec : (s.fn H (ds ++ gs)).results = [.lit (.bool true)] ∧ (s.fn H (ds ++ gs)).args = ds ∧ (s.fn H (ds ++ gs)).vars = [])
    (hW : DataW.Whole enc Try.prog f.params.toList s.vars false W args.toList ds gs before) (hb : Below W.heap.size W W') :
    s.post enc Try.prog f false true false false W args (.bool true) W' := by
  have hlt := fun x hx => hW.lt x hx
  obtain ⟨p, q, hA, hV, e, _⟩ := id hW
  rw [hvars] at hV
  obtain ⟨rfl, rfl⟩ := trodVars_none hV
  rw [List.append_nil] at e
  subst e
  refine ⟨ds, [], before, [], before, [], hW, ?_, ?_, ?_, hb.frame _, fun h => by cases h⟩
  · rw [hspec.1, hres]
    exact trodAll_mk1 (shut_bool Try.underlying4 true)
  · rw [hspec.2.1]
    exact trodAll_keep hb hpar hlt hA
  · rw [hvars, hspec.2.2]
    rfl
end

end Go.Proofs.Ytebliaclleplgaa

/- What the laws of layer 4 share. -/
namespace Go.Proofs.Ytebliaclleplgaa
open Go.ChangeShapes Go.WideShapes Go.ChangeAt Go.RowKit Go.Joins

theorem inL_of {code : List Int} (h : ∀ z ∈ code, inI z) : inL code := fun j => by
  rcases Nat.lt_or_ge j code.length with hj | hj
  · have e : code.getD j 0 = code[j] := by simp [List.getD, hj]
    rw [e]; exact h _ (List.getElem_mem hj)
  · have e : code.getD j 0 = 0 := by simp [List.getD, hj]
    rw [e]; omega

end Go.Proofs.Ytebliaclleplgaa

/- Contracts of Diagram and Of as the laws of layer 4 meet them. -/
namespace Go.Proofs.Ytebliaclleplgaa
open Go.ChangeShapes Go.WideShapes Go.ChangeAt Go.RowKit Go.Joins

structure DgOk (code l : List Int) (n : Nat) : Prop where
  dv : dvB code = true
  len : l.length = n
  n14 : n ≤ 14
  pos : 1 ≤ n
  L : dgL code = l
  M : dgM code = mkM code l
  E : dgE code = 0
  valid : validB l (mkM code l) 0 = true
  first : l.getD 0 0 = 1
  comp : compM l (mkM code l) 0 = 1
  again : ofE l (mkM code l) 0 = 0 ∧ (ofL l (mkM code l) 0).length = n ∧ dvB (ofL l (mkM code l) 0) = true
theorem dg_ok {code : List Int} {n : Nat} (hn : code.length = n) (h : dgE code = 0) : ∃ l, DgOk code l n := by
  cases hv : dvB code with
  | false => unfold dgE at h; rw [hv] at h; simp at h
  | true =>
    by_cases h14 : 14 < code.length
    · unfold dgE at h; rw [hv, if_neg (by decide), if_pos h14] at h; cases h
    · cases hs : dgS code with
      | none => unfold dgE at h; rw [hv, if_neg (by decide), if_neg h14, hs] at h; cases h
      | some l =>
        obtain ⟨h1, h2, h3⟩ := srch_out (show srch code (code.length - 1) [1] = some l from hs)
        have hpos : 1 ≤ code.length := ((dvB_iff code).1 hv).1
        have hl : l.length = n := by rw [h1]; show 1 + (code.length - 1) = n; omega
        have hone := mk_one (lp := 0) hv hn hl h2
        have hcomp : compM l (mkM code l) 0 = 1 := by rw [compM_add h2, hone]; rfl
        obtain ⟨_, st, hst, hk⟩ := knot_one h2 (by omega) (by omega)
        have hoE : ofE l (mkM code l) 0 = 0 := by unfold ofE; rw [h2, if_neg (by decide), if_neg (by omega), if_neg (by omega)]
        have hoL : ofL l (mkM code l) 0 = cdF st l.length := by unfold ofL; rw [h2, if_neg (by decide), if_neg (by omega), if_neg (by omega), hst]; rfl
        refine ⟨l, hv, hl, by omega, by omega, ?_, ?_, h, h2, h3 0 (by decide), hcomp, hoE, ?_, ?_⟩
        · unfold dgL; rw [hv, if_neg (by decide), if_neg h14, hs]
        · unfold dgM; rw [hv, if_neg (by decide), if_neg h14, hs]
        · rw [hoL, cdF_length, hl]
        · rw [hoL]; exact hk.valid (by omega) (by omega)
theorem mkM_range (code s : List Int) (hv : validB s (mkM code s) 0 = true) (j : Nat) : -9223372036854775808 ≤ mt (mkM code s) j ∧ mt (mkM code s) j ≤ 9223372036854775807 := by
  have F := bk_facts hv
  rcases Nat.lt_or_ge j (mkM code s).length with hj | hj
  · have hm := matesOf_mates F.pr rfl j hj
    have hle := F.le
    have hlm := F.lm
    unfold mt
    rw [hm.1]
    omega
  · have e : mt (mkM code s) j = 0 := by unfold mt; simp [List.getD, hj]
    rw [e]; omega
theorem dg_call (C : Option Addr) (n cc : Nat) (code l : List Int) (W : World) (hC : RI W C n code) (hn : n ≤ 9223372036854775807) (hI : inL code) (h : DgOk code l n) :
    Calls Try.prog 9 #[.slice C n cc] W fun e w' => ∃ A cs B cm, e = .returned (.tuple #[dval A n cs B (4 * n) cm 0, .int .i64 0]) ∧ DV w' A n B (4 * n) l (mkM code l) ∧ Below W.heap.size W w' := by
  refine (diagram_any C n cc code W hC hn hI).mono ?_
  rintro e w' ⟨A, ns, cs, B, nm, cm, rfl, h1, h2, hb⟩
  rw [h.L] at h1
  rw [h.M] at h2
  obtain rfl : n = ns := h.len.symm.trans h1.1
  have e2 : (mkM code l).length = 4 * n := by rw [(bk_facts h.valid).lm, h.len]
  obtain rfl : 4 * n = nm := e2.symm.trans h2.1
  have := h.n14
  exact ⟨A, cs, B, cm, by rw [h.E], ⟨h1, h2, by omega, by omega, fun j _ => mkM_range code l h.valid j⟩, hb⟩
theorem dg_no (C : Option Addr) (n cc : Nat) (code : List Int) (W : World) (hC : RI W C n code) (hn : n ≤ 9223372036854775807) (hI : inL code) (ez : Int) (h : dgE code = ez) :
    Calls Try.prog 9 #[.slice C n cc] W fun e w' => ∃ A ns cs B nm cm, e = .returned (.tuple #[dval A ns cs B nm cm 0, .int .i64 ez]) ∧ Below W.heap.size W w' := by
  refine (diagram_any C n cc code W hC hn hI).mono ?_
  rintro e w' ⟨A, ns, cs, B, nm, cm, rfl, h1, h2, hb⟩
  exact ⟨A, ns, cs, B, nm, cm, by rw [h], hb⟩
theorem of_call (A B : Option Addr) (ns cs nm cm : Nat) (s m : List Int) (W : World) (h : DV W A ns B nm s m) (n : Nat) (hl : (ofL s m 0).length = n) (he : ofE s m 0 = 0) :
    Calls Try.prog 7 #[dval A ns cs B nm cm 0] W fun e w' => ∃ A' c, e = .returned (.tuple #[.slice A' n c, .int .i64 0]) ∧ RI w' A' n (ofL s m 0) ∧ Below W.heap.size W w' := by
  refine (dof_any A B ns cs nm cm 0 s m W h).mono ?_
  rintro e w' ⟨A', n', c, rfl, h1, hb⟩
  obtain rfl : n = n' := hl.symm.trans h1.1
  exact ⟨A', c, by rw [he], h1, hb⟩
theorem inL_dv {code : List Int} (h : dvB code = true) : inL code := fun j => by
  by_cases hj : j < code.length
  · obtain ⟨h1, h2, _⟩ := (okAt_iff code j).1 (((dvB_iff code).1 h).2.2 j hj)
    have := ((dvB_iff code).1 h).2.1
    unfold szI at h1 h2
    split at h1 <;> (try split at h1) <;> simp_all <;> omega
  · have e : code.getD j 0 = 0 := by simp [List.getD, show code.length ≤ j by omega]
    rw [e]; decide

end Go.Proofs.Ytebliaclleplgaa

/- Plain: the diagram that is drawn from a knot's code is the knot's diagram or its reflection, if just two lists of signs are possible. -/
namespace Go.Proofs.Ytebliaclleplgaa

theorem ex_neg {code s : List Int} {n p : Nat} (h : dvB code = true) (hn : code.length = n) (hs : sgnsB s = true) (hl : s.length = n) (hp : p < 2 * n) : exN code (negL s) n p = rho (exN code s n p) := by
  obtain ⟨i, hi, e | e⟩ := pos_ex h hn hp
  · rw [e, (exN_at s h (k := n) (i := i) hi (by omega)).1, (exN_at (negL s) h (k := n) (i := i) hi (by omega)).1, negL_get]
    rcases sg_cases hs (i := i) (by omega) with q | q <;> rw [q]
    · show 4 * i + 3 = rho (4 * i + 1); unfold rho; omega
    · show 4 * i + 1 = rho (4 * i + 3); unfold rho; omega
  · rw [e, (exN_at s h (k := n) (i := i) hi (by omega)).2, (exN_at (negL s) h (k := n) (i := i) hi (by omega)).2]
    unfold rho; omega
theorem rho_rfN (x : Nat) : rho x = rfN x := by unfold rho rfN; omega
theorem mk_neg {code s : List Int} {n x : Nat} (h : dvB code = true) (hn : code.length = n) (hs : sgnsB s = true) (hl : s.length = n) (hx : x < 4 * n) : matesOf (mkM code (negL s)) (rfN x) = rfN (matesOf (mkM code s) x) := by
  have := mk_conj (T := rho) h h hn hn hs (sg_neg hs) hl (by rw [negL_length, hl]) (fun p hp => ex_neg h hn hs hl hp) (fun x => by unfold rho trn; omega) hx
  rwa [rho_rfN, rho_rfN] at this
theorem IsoF.congr {pA pB pB' : Nat → Nat} {sA sB sB' : Nat → Int} {n : Nat} {f : Nat → Nat} (F : IsoF pA pB sA sB n f) (hp : ∀ h, h < 4 * n → pB h = pB' h) (hs : ∀ i, i < n → sB i = sB' i) : IsoF pA pB' sA sB' n f :=
  ⟨F.pos, F.a, fun h hh => by rw [← hp h hh]; exact F.b h hh, F.fr, fun h hh => by
    have := F.fr (h / 4) (by omega)
    rw [← hp _ (by omega)]; exact F.m h hh, fun i hi => by rw [F.s i hi, hs _ (F.fr i hi)], F.conn⟩
theorem negs_get {s : List Int} {n i : Nat} (hi : i < n) : gz (negs s n) i = -(gz s i) := by
  show (negs s n).getD i 0 = _
  simp [negs, List.getD, hi]
/-- What can be drawn with some signs has a first list of signs. -/
theorem dgE_of {code t : List Int} {n : Nat} (h : dvB code = true) (hn : code.length = n) (h14 : n ≤ 14) (hl : t.length = n) (hs : sgnsB t = true) (hv : validB t (mkM code t) 0 = true) : dgE code = 0 := by
  have hmem := mem_allK hl hs hv
  cases hS : dgS code with
  | none =>
    have := allK_head h hn
    rw [hS, List.head?_eq_none_iff] at this
    rw [this] at hmem; cases hmem
  | some l => unfold dgE; rw [h, if_neg (by decide), if_neg (by omega), hS]

structure BackOk (s m : List Int) (lp : Int) (n : Nat) (code l : List Int) : Prop where
  z : lp = 0
  cl : code.length = n
  e : ofE s m lp = 0
  L : ofL s m lp = code
  ok : DgOk code l n
  two : (allK code n (2 ^ n)).length = 2 → isoM (matesOf (mkM code l)) (matesOf m) (gz l) (gz s) n = true ∨ isoM (matesOf (mkM code l)) (fun h => rfN (matesOf m (rfN h))) (gz l) (gz (negs s n)) n = true
theorem back_law {s m : List Int} {lp : Int} {n : Nat} (hv : validB s m lp = true) (hn : s.length = n) (h1 : 1 ≤ n) (h14 : n ≤ 14) (hc : ¬ 1 < compM s m lp) : ∃ code l, BackOk s m lp n code l := by
  subst hn
  obtain ⟨h0, st, hst, K, hls, F⟩ := back_of hv h1 (by omega)
  have hkv := K.valid h1 (by omega)
  have hcl := cdF_length st s.length
  have hsl := sgF_length s st s.length
  have hbv := back_valid hv h1 K hls F
  obtain ⟨l, ok⟩ := dg_ok hcl (dgE_of hkv hcl h14 hsl hls hbv)
  refine ⟨cdF st s.length, l, h0, hcl, ?_, ?_, ok, fun h2 => ?_⟩
  · unfold ofE; rw [hv, if_neg (by decide), if_neg (by omega), if_neg (by omega)]
  · unfold ofL; rw [hv, if_neg (by decide), if_neg (by omega), if_neg (by omega), hst]; rfl
  · have hsg := (bk_facts ok.valid).sg
    rcases back_two hkv hcl h2 ok.len hsg ok.valid hsl hls hbv with e | e
    · left; rw [← e]; exact isoM_true F
    · right
      rw [e] at F
      refine isoM_true ((F.refl (pA := matesOf (mkM (cdF st s.length) l)) (sA := gz l) (fun x hx => (mk_invol hkv hcl hsg ok.len).lt x hx) (fun x hx => mk_neg hkv hcl hsg ok.len hx) (fun i _ => ?_)).congr (fun _ _ => rfl) (fun i hi => (negs_get hi).symm))
      show l.getD i 0 = -((negL l).getD i 0)
      rw [negL_get]; omega

end Go.Proofs.Ytebliaclleplgaa

/- append of a list onto an empty slice of the call's own, at a step of a region that draws. -/
namespace Go.Proofs.Ytebliaclleplgaa
open Go.ChangeShapes Go.WideShapes Go.ChangeAt Go.RowKit

theorem OI.emptyAt {w : World} {B g : Nat} (hh : w.heap[g]? = some (.cells #[] 3 (0, 0))) (hB : B ≤ g) : OI w B (.slice (some ⟨g, 0, none⟩) 0 0) [] :=
  ⟨rfl, .inr ⟨g, 0, #[], rfl, hB, hh, Nat.le_refl _, by simp [maxLen], rfl, rfl⟩⟩

set_option maxRecDepth 100000 in
/-- append of a slice that reads as a list to an empty slice of the call's own, at a step of a region that draws. -/
theorem dk_append_new {ops : Array Oper} {o : Oper} {a : Act} {w : World} {K : Act → World → Prop} {Q : Exit → Act → World → Prop} {E : Prop} (hgd : o.guard = none) (s x : Operand)
    (ho : o.op = .call { callee := .builtin .append, args := #[s, x], argTypes := #[22, 22] }) (B g : Nat) (hs : a.eval s = .slice (some ⟨g, 0, none⟩) 0 0)
    (hh : w.heap[g]? = some (.cells #[] 3 (0, 0))) (hB : B ≤ g) (A : Option Addr) (n c : Nat) (xs : List Int) (hx : a.eval x = .slice A n c) (hr : RI w A n xs) (hn : n ≤ 1000000)
    (h : ∀ A' c' w' k, OI w' B (.slice A' n c') xs → (Value.slice A' n c').ownBlock = some k → (k = g ∨ k = w.heap.size) → k < w'.heap.size → w.grownBy w' (some g) → K (a.put o.dst (.slice A' n c')) w') :
    if Region.wanted o (yielded ops a.tmps) = true then Oper.wp Try.prog o a w K Q else E := by
  have hw : Region.wanted o (yielded ops a.tmps) = true := by simp [Region.wanted, hgd]
  rw [if_pos hw]
  obtain ⟨i0, hi, hz0, hz1, hz2⟩ := info_parts Try.infoInt
  have hown := OI.emptyAt hh hB
  have hgs : g < w.heap.size := by
    rcases Nat.lt_or_ge g w.heap.size with hlt | hge
    · exact hlt
    · rw [Array.getElem?_eq_none hge] at hh; cases hh
  have hl := hr.1
  cases A with
  | none =>
    have h0 : n = 0 := by
      rcases Nat.eq_zero_or_pos n with h0 | h0
      · exact h0
      · obtain ⟨b, off, e, _⟩ := hr.2 h0
        cases e
    subst h0
    have hxs : xs = [] := List.length_eq_zero_iff.1 hl
    subst hxs
    have hrun : (Builtin.append_ #[22, 22] o.type #[.slice (some ⟨g, 0, none⟩) 0 0, .slice none 0 c]).run Try.prog w = .ok (.slice (some ⟨g, 0, none⟩) 0 0) w := by
      simp [Builtin.append_, run_underlying Try.underlying22, sizeOf, typeInfo, hi, Builtin.lenOf, Builtin.firstCells, storeCells]
    unfold Oper.wp execOp
    simp only [ho, resolve, invoke, builtin, Sem.run_bind, Sem.run_pure, Result.andThen_ok, List.map_toArray, List.map_cons, List.map_nil, hs, hx, hrun]
    exact h _ _ w g hown rfl (.inl rfl) hgs (World.grownBy.refl w _)
  | some ad =>
    have hcells : ∀ j u, (ints xs)[j]? = some u → w.cell? (ad.add j) = some u := by
      intro j u hj
      have hjn : j < xs.length := by
        have := (List.getElem?_eq_some_iff.1 hj).1
        simpa [ints] using this
      obtain ⟨b, off, e, _, hc⟩ := hr.2 (by omega)
      obtain rfl := Option.some.inj e
      rw [add_plain, hc j (by omega)]
      simp [ints, hjn] at hj
      rw [← hj]
      simp [List.getD, hjn]
    obtain ⟨v', w', hrun, h1, h2, _, h3⟩ := run_append_own_at (P := Try.prog) w B 22 o.type 3 i0 (.int .i64 0) 1 8 Try.underlying22 hi hz0 hz1 hz2 rfl (by decide) (.slice (some ⟨g, 0, none⟩) 0 0) 0 [] hown ad n c (ints xs) (by simp [ints, hl]) hcells
      (fun u hu => by simp [ints] at hu; obtain ⟨z, _, rfl⟩ := hu; rfl) (by unfold maxLen; omega) (by omega) (by omega)
    have hv : ∃ A' c', v' = .slice A' n c' := by
      rcases h1.2 with ⟨e, e2⟩ | ⟨g', cap', cur, e, _⟩
      · exact ⟨none, 0, by rw [e]; simp at e2; rw [e2]⟩
      · exact ⟨some ⟨g', 0, none⟩, cap', by rw [e]; simp⟩
    obtain ⟨A', c', rfl⟩ := hv
    unfold Oper.wp execOp
    simp only [ho, resolve, invoke, builtin, Sem.run_bind, Sem.run_pure, Result.andThen_ok, List.map_toArray, List.map_cons, List.map_nil, hs, hx, hrun]
    have ho : OI w' B (.slice A' n c') xs := by
      unfold OI
      simpa [ints, hl] using h1
    rcases h3 with h3 | h3
    · exact h _ _ w' g ho h3 (.inl rfl) (World.ownsRow.lt ho g h3).2 h2
    · exact h _ _ w' w.heap.size ho h3 (.inr rfl) (World.ownsRow.lt ho _ h3).2 h2

end Go.Proofs.Ytebliaclleplgaa

/- Plain mathematics: where the passages of a code come in. -/
namespace Go.Proofs.Ytebliaclleplgaa

def inN (code s : List Int) : Nat → Nat → Nat
  | 0 => fun _ => 0
  | k + 1 => upd (upd (inN code s k) (unN code k) (4 * k)) (ovN code k) (trn (4 * k + soN (s.getD k 0)) 2)
theorem upd_swap {L : Nat → Nat} {a b x y : Nat} (h : a ≠ b) : upd (upd L a x) b y = upd (upd L b y) a x := by
  funext i
  unfold upd
  by_cases h1 : i = a
  · subst h1; simp [h]
  · by_cases h2 : i = b
    · subst h2; simp [h1]
    · simp [h1, h2]
theorem inN_lt {code s : List Int} {n : Nat} (k x : Nat) (hk : k ≤ n) (hn : 0 < n) : inN code s k x < 4 * n := by
  induction k with
  | zero => show 0 < _; omega
  | succ k ih =>
    show upd _ _ _ x < _
    unfold upd
    have := soN_cases (s.getD k 0)
    split
    · unfold trn; omega
    · split
      · omega
      · exact ih (by omega)
theorem inN_at {code : List Int} (s : List Int) (h : dvB code = true) {k i : Nat} (hi : i < k) (hk : k ≤ code.length) :
    inN code s k (ovN code i) = trn (4 * i + soN (s.getD i 0)) 2 ∧ inN code s k (unN code i) = 4 * i := by
  induction k with
  | zero => omega
  | succ k ih =>
    show upd _ _ _ _ = _ ∧ upd _ _ _ _ = _
    by_cases e : i = k
    · subst e
      have := (ov_lt h (i := i) (by omega)).2.2
      rw [upd_same, upd_other _ _ _ _ (fun q => this q.symm), upd_same]
      exact ⟨rfl, rfl⟩
    · obtain ⟨a1, a2, a3⟩ := ov_apart h (i := i) (j := k) (by omega) (by omega) e
      obtain ⟨b1, b2, b3⟩ := ov_apart h (i := k) (j := i) (by omega) (by omega) (fun q => e q.symm)
      rw [upd_other _ _ _ _ a1, upd_other _ _ _ _ a2, upd_other _ _ _ _ (fun q => b2 q.symm), upd_other _ _ _ _ a3]
      exact ih (by omega) (by omega)

theorem in_ex {code : List Int} (s : List Int) (h : dvB code = true) {n q : Nat} (hn : code.length = n) (_hq : q < 2 * n) (hpos : ∃ i, i < n ∧ (q = ovN code i ∨ q = unN code i)) : inN code s n q = trn (exN code s n q) 2 := by
  obtain ⟨i, hi, e | e⟩ := hpos
  · rw [e, (inN_at s h (k := n) (i := i) hi (by omega)).1, (exN_at s h (k := n) (i := i) hi (by omega)).1]
  · rw [e, (inN_at s h (k := n) (i := i) hi (by omega)).2, (exN_at s h (k := n) (i := i) hi (by omega)).2]
    unfold trn; omega
theorem upd_cast (P : Nat → Nat) (a b x y : Nat) (u v : Int) (hu : u = x) (hv : v = y) (i : Nat) : (if i = b then v else if i = a then u else (P i : Int)) = (upd (upd P a x) b y i : Nat) := by
  unfold upd
  by_cases h1 : i = b
  · rw [if_pos h1, if_pos h1, hv]
  · rw [if_neg h1, if_neg h1]
    by_cases h2 : i = a
    · rw [if_pos h2, if_pos h2, hu]
    · rw [if_neg h2, if_neg h2]

end Go.Proofs.Ytebliaclleplgaa
