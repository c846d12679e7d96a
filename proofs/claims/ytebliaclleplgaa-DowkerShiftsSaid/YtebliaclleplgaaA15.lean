import Derived.Test.YtebliaclleplgaaA10
import Derived.Test.YtebliaclleplgaaA12
import Derived.Test.YtebliaclleplgaaA11
import Derived.Test.YtebliaclleplgaaA14
/- Walk of the reference: Shift. -/
namespace Go.Proofs.Ytebliaclleplgaa
open Go.RowKit

theorem Try.infoBoolS : (Try.prog.info? 4).map (fun i => (i.zero, i.size, i.bytes)) = some (some (.bool false), 1, 1) := by kernel_rfl
def shP (code : List Int) : Nat → Nat → Nat
  | 0 => fun _ => 0
  | k + 1 => upd (upd (shP code k) (2 * k) (2 * dhalf code k + 1)) (2 * dhalf code k + 1) (2 * k)
def shO (code : List Int) : Nat → Nat → Bool
  | 0 => fun _ => false
  | k + 1 => fun i => if i = 2 * dhalf code k + 1 then decide (code.getD k 0 < 0) else if i = 2 * k then decide (0 < code.getD k 0) else shO code k i
/-- The number of the shifted code at place k. -/
def shA (code : List Int) (n k : Nat) : Int :=
  if shO code n (shP code n (2 * k + 1)) = true then -((((shP code n (2 * k + 1) + 2 * n - 1) % (2 * n) + 1 : Nat)) : Int) else (((shP code n (2 * k + 1) + 2 * n - 1) % (2 * n) + 1 : Nat) : Int)
def shL (code : List Int) (n : Nat) : List Int := (List.range n).map (shA code n)
theorem shL_succ (code : List Int) (n k : Nat) : (List.range (k + 1)).map (shA code n) = (List.range k).map (shA code n) ++ [shA code n k] := by rw [List.range_succ, List.map_append]; rfl
theorem shP_lt {code : List Int} {n : Nat} (h : dvB code = true) (hn : code.length = n) : ∀ k, k ≤ n → ∀ p, p < 2 * n → shP code k p < 2 * n
  | 0, _, p, hp => by show 0 < 2 * n; omega
  | k + 1, hk, p, hp => by
    have h1 := (dhalf_eq h (i := k) (by omega)).2
    have h2 := shP_lt h hn k (by omega) p hp
    show upd (upd (shP code k) (2 * k) (2 * dhalf code k + 1)) (2 * dhalf code k + 1) (2 * k) p < 2 * n
    unfold upd
    split
    · omega
    · split
      · omega
      · exact h2
def TwoIB (wA : World) (L : Nat) (u v : Value) (wX : World) : Prop :=
  ∃ gP gO, u = .slice (some ⟨gP, 0, none⟩) L L ∧ v = .slice (some ⟨gO, 0, none⟩) L L ∧ Arr wX gP 3 L (iv fun _ => 0) ∧ Arr wX gO 4 L (bv fun _ => false) ∧ gP ≠ gO ∧ wA.heap.size ≤ gP ∧ wA.heap.size ≤ gO ∧ Below wA.heap.size wA wX

theorem two_ib1 (w : World) (L : Nat) : TwoIB w L (.slice (some ⟨w.heap.size, 0, none⟩) L L) (.slice (some ⟨w.heap.size + 1, 0, none⟩) L L) ((w.alloc (.cells (cellsN L fun _ => .int .i64 0) 3)).alloc (.cells (cellsN L fun _ => .bool false) 4)).drew := by
  have h1 := (arr0 w L).alloc (.cells (cellsN L fun _ => .bool false) 4)
  have h2 := Arr.new (w.alloc (.cells (cellsN L fun _ => .int .i64 0) 3)) L 4 (fun _ => .bool false)
  rw [show (w.alloc (.cells (cellsN L fun _ => .int .i64 0) 3)).heap.size = w.heap.size + 1 by simp] at h2
  exact ⟨_, _, rfl, rfl, h1, h2, by omega, by omega, by omega, (below_step (below_alloc w _) (below_alloc _ _)).drew⟩
theorem two_ib2 (w : World) (L : Nat) : TwoIB w L (.slice (some ⟨w.heap.size + 1, 0, none⟩) L L) (.slice (some ⟨w.heap.size, 0, none⟩) L L) ((w.alloc (.cells (cellsN L fun _ => .bool false) 4)).alloc (.cells (cellsN L fun _ => .int .i64 0) 3)).drew := by
  have h1 := (Arr.new w L 4 (fun _ => .bool false)).alloc (.cells (cellsN L fun _ => .int .i64 0) 3)
  have h2 := arr0 (w.alloc (.cells (cellsN L fun _ => .bool false) 4)) L
  rw [show (w.alloc (.cells (cellsN L fun _ => .bool false) 4)).heap.size = w.heap.size + 1 by simp] at h2
  exact ⟨_, _, rfl, rfl, h2, h1, by omega, by omega, by omega, (below_step (below_alloc w _) (below_alloc _ _)).drew⟩
theorem shP_step {w : World} {g n k : Nat} {code : List Int} (h : Arr w g 3 n (iv (shP code k))) : Arr ((w.setCell ⟨g, 2 * k, none⟩ (.int .i64 ((2 * dhalf code k + 1 : Nat) : Int))).setCell ⟨g, 2 * dhalf code k + 1, none⟩ (.int .i64 ((2 * k : Nat) : Int))) g 3 n (iv (shP code (k + 1))) :=
  (h.seti (2 * k) (2 * dhalf code k + 1)).seti (2 * dhalf code k + 1) (2 * k)
theorem shO_step {w : World} {g n k : Nat} {code : List Int} (h : Arr w g 4 n (bv (shO code k))) : Arr ((w.setCell ⟨g, 2 * k, none⟩ (.bool (decide (0 < code.getD k 0)))).setCell ⟨g, 2 * dhalf code k + 1, none⟩ (.bool (decide (code.getD k 0 < 0)))) g 4 n (bv (shO code (k + 1))) :=
  ((h.set (2 * k) (.bool (decide (0 < code.getD k 0)))).set (2 * dhalf code k + 1) (.bool (decide (code.getD k 0 < 0)))).congr fun i _ => by
    show _ = Value.bool (if i = 2 * dhalf code k + 1 then decide (code.getD k 0 < 0) else if i = 2 * k then decide (0 < code.getD k 0) else shO code k i)
    by_cases e1 : i = 2 * dhalf code k + 1
    · rw [if_pos e1, if_pos e1]
    · rw [if_neg e1, if_neg e1]
      by_cases e2 : i = 2 * k
      · rw [if_pos e2, if_pos e2]
      · rw [if_neg e2, if_neg e2]

set_option maxHeartbeats 6400000 in
set_option maxRecDepth 100000 in
theorem shift_any (C : Option Addr) (n cc : Nat) (code : List Int) (w : World) (hC : RI w C n code) (hn0 : 0 < n) (hn : n ≤ 64) (hv : dvB code = true) (hI : inL code) :
    Calls Try.prog 14 #[.slice C n cc] w fun e w' => ∃ A c, e = .returned (.slice A n c) ∧ RI w' A n (shL code n) ∧ Below w.heap.size w w' := by
  have hmk1 : ∀ W, (Instr.makeSlice 22 (.int .i64 (2 * (n : Int))) (.int .i64 (2 * (n : Int)))).run Try.prog W = .ok (.slice (some ⟨W.heap.size, 0, none⟩) (2 * n) (2 * n)) (W.alloc (.cells (cellsN (2 * n) fun _ => .int .i64 0) 3)) := fun W => by
    have := make_one (P := Try.prog) Try.underlying22 Try.infoInt rfl (2 * n) (by omega) (by omega) W
    rw [show ((2 * n : Nat) : Int) = 2 * (n : Int) by omega] at this
    exact this
  have hmk2 : ∀ W, (Instr.makeSlice 49 (.int .i64 (2 * (n : Int))) (.int .i64 (2 * (n : Int)))).run Try.prog W = .ok (.slice (some ⟨W.heap.size, 0, none⟩) (2 * n) (2 * n)) (W.alloc (.cells (cellsN (2 * n) fun _ => .bool false) 4)) := fun W => by
    have := make_one (P := Try.prog) Try.underlying49 Try.infoBoolS rfl (2 * n) (by omega) (by omega) W
    rw [show ((2 * n : Nat) : Int) = 2 * (n : Int) by omega] at this
    exact this
  have HC := Lib.hid hC
  have HV := Lib.hid hv
  have HI := Lib.hid hI
  have hni : (n : Int) ≤ 64 := by omega
  have hni0 : (0 : Int) < (n : Int) := by omega
  clear hC hv hI
  go_enter Try.func14, Try.ntmps14
  go_upto_region 2 with fail
  go_cut [4, 5] (fun u v wX => TwoIB w (2 * n) u v wX)
  case first =>
    go_region
    all_goals go_wp2_with fail
    all_goals go_meet
    all_goals first
      | exact two_ib1 w (2 * n)
      | exact two_ib2 w (2 * n)
  case rest =>
    obtain ⟨gP, gO, rfl, rfl, hP0, hO0, hne, hgP, hgO, hbX⟩ := hcut
    have hP0' : Arr wc gP 3 (2 * n) (iv (shP code 0)) := hP0.congr fun _ _ => rfl
    have hO0' : Arr wc gO 4 (2 * n) (bv (shO code 0)) := hO0.congr fun _ _ => rfl
    have hl := HC.out.1
    obtain ⟨b, off, rfl, hb, hc⟩ := HC.out.2 hn0
    have HCC := Lib.hid hc
    have HL := Lib.hid hl
    clear hP0 hO0 hc hl
    go_wp2
    go_loopw [6] (fun i wr => ∃ k : Nat, k ≤ n ∧ i = .int .i64 k ∧ Below w.heap.size w wr ∧ Arr wr gP 3 (2 * n) (iv (shP code k)) ∧ Arr wr gO 4 (2 * n) (bv (shO code k))) (fun i _ => n - (intOf i).toNat)
    case atStart => exact ⟨0, by omega, rfl, hbX, hP0', hO0'⟩
    case round =>
      obtain ⟨k, hk, rfl, hbr, hP, hO⟩ := hrel
      have hk0 : (0 : Int) ≤ (k : Int) := Int.natCast_nonneg _
      by_cases hkn : k < n
      · have hk1 : (k : Int) < (n : Int) := by omega
        have hcell := (hbr.cell (p := ⟨b, off + k, none⟩) hb).trans (HCC.out k hkn)
        obtain ⟨hz1, hz2⟩ := dhalf_eq HV.out (i := k) (by have := HL.out; omega)
        obtain ⟨x0, x1⟩ := HI.out k
        have HP2 := shP_step hP
        have hPl := hP.lt
        have hOl := hO.lt
        have hlen := HL.out
        obtain ⟨x, hx⟩ : ∃ x, code.getD k 0 = x := ⟨_, rfl⟩
        obtain ⟨d, hd⟩ : ∃ d, dhalf code k = d := ⟨_, rfl⟩
        rw [hx] at hcell hz1 x0 x1
        rw [hd] at hz1 hz2 HP2
        have hdn : d < n := by omega
        obtain ⟨e, he⟩ : ∃ e, 2 * k = e := ⟨_, rfl⟩
        obtain ⟨q, hq⟩ : ∃ q, 2 * d + 1 = q := ⟨_, rfl⟩
        rw [he, hq] at HP2
        have hei : 2 * (k : Int) = (e : Int) := by omega
        have hqi : 2 * (d : Int) + 2 - 1 = (q : Int) := by omega
        have hb1 : Below w.heap.size w ((wr.setCell ⟨gP, e, none⟩ (.int .i64 (q : Int))).setCell ⟨gP, q, none⟩ (.int .i64 (e : Int))) := below_set (below_set hbr hgP _) hgP _
        have hO1 : Arr ((wr.setCell ⟨gP, e, none⟩ (.int .i64 (q : Int))).setCell ⟨gP, q, none⟩ (.int .i64 (e : Int))) gO 4 (2 * n) (bv (shO code k)) := (hO.far (fun e => hne e.symm) _).far (fun e => hne e.symm) _
        have CZ := Lib.hid (size_any x wr x0 x1)
        rw [hz1] at CZ
        have c1 := hP.cell e (by omega)
        have f1 := hP.frozen e
        have c2 := hP.cell q (by omega)
        have f2 := hP.frozen q
        have d0 : (0 : Int) ≤ (d : Int) := Int.natCast_nonneg _
        have d1 : (d : Int) < (n : Int) := by omega
        have e0 : (0 : Int) ≤ (e : Int) := Int.natCast_nonneg _
        have e1 : (e : Int) < 2 * (n : Int) := by omega
        have q0 : (0 : Int) ≤ (q : Int) := Int.natCast_nonneg _
        have q1 : (q : Int) < 2 * (n : Int) := by omega
        have hL2 : e < 2 * n := by omega
        have hL3 : q < 2 * n := by omega
        have hne2 : e ≠ q := by omega
        have HX := Lib.hid hx
        have HD := Lib.hid hd
        have HE := Lib.hid he
        have HQ := Lib.hid hq
        clear hP hO hx hd hz1 he hq
        go_upto_region 8 with (go_at_call 27; ((with_reducible refine CZ.out.mono ?_); rintro e w2 ⟨rfl, rfl⟩))
        have hS0 : ((wr.setCell ⟨gP, e, none⟩ (.int .i64 (q : Int))).setCell ⟨gP, q, none⟩ (.int .i64 (e : Int))).cell? ⟨b, off + k, none⟩ = some (.int .i64 x) := (hb1.cell (p := ⟨b, off + k, none⟩) hb).trans ((hbr.cell (p := ⟨b, off + k, none⟩) hb).symm.trans hcell)
        clear c1 c2 f1 f2 hcell hbr
        generalize (wr.setCell ⟨gP, e, none⟩ (.int .i64 (q : Int))).setCell ⟨gP, q, none⟩ (.int .i64 (e : Int)) = wS at *
        have c3 := hO1.cell e hL2
        have f3 := hO1.frozen e
        have c4 := hO1.cell q hL3
        have f4 := hO1.frozen q
        have HO2 := shO_step hO1.drew
        rw [HD.out, HE.out, HQ.out, HX.out] at HO2
        have HO3 := Lib.hid HO2
        have HB1 := Lib.hid hb1
        have HP3 := Lib.hid HP2
        clear hO1 hb1 HP2 HO2
        go_region
        all_goals
          go_wp2
          go_roundw
          case rel => exact ⟨k + 1, by omega, by go_num, below_set (below_set HB1.out.drew hgO _) hgO _, (HP3.out.drew.far hne _).far hne _, HO3.out⟩
          case measure => simp [intOf]; omega
      · obtain rfl : n = k := by omega
        have hPL : ∀ p, p < 2 * n → shP code n p < 2 * n := shP_lt HV.out HL.out n (Nat.le_refl _)
        have HPA := Lib.hid hP
        have HOA := Lib.hid hO
        have HPL := Lib.hid hPL
        obtain ⟨L, hLn⟩ : ∃ L, 2 * n = L := ⟨_, rfl⟩
        have hLi : 2 * (n : Int) = (L : Int) := by omega
        have HLN := Lib.hid hLn
        obtain ⟨wO, hwO⟩ : ∃ wO : World, wO = wr := ⟨_, rfl⟩
        subst hwO
        have HBR := Lib.hid hbr
        have hL0 : ¬ (L : Int) = 0 := by omega
        have hL1 : ((L : Int) == 0) = false := beq_eq_false_iff_ne.2 hL0
        have hL2 : (0 : Int) < (L : Int) := by omega
        have hL3 : (L : Int) ≤ 128 := by omega
        clear hP hO hPL hkn hk hP0' hO0' hbX
        rw [hLn] at HPA HOA HPL ⊢
        clear hLn
        go_wp2
        go_loopw [9, 10] (fun v i wr => ∃ k : Nat, k ≤ n ∧ i = .int .i64 k ∧ Below wO.heap.size wO wr ∧ OI wr wO.heap.size v ((List.range k).map (shA code n))) (fun _ i _ => n - (intOf i).toNat)
        case atStart => exact ⟨0, by omega, rfl, Below.refl _ _, OI.nil _ _⟩
        case round =>
          obtain ⟨k, hk, rfl, hbq, hoi⟩ := hrel
          have hk0' : (0 : Int) ≤ (k : Int) := Int.natCast_nonneg _
          by_cases hkn : k < n
          · have hk1 : (k : Int) < (n : Int) := by omega
            have hln := HLN.out
            have hPa := HPA.out.keep hbq
            have hOa := HOA.out.keep hbq
            obtain ⟨a, ha⟩ : ∃ a, 2 * k + 1 = a := ⟨_, rfl⟩
            have haL : a < L := by omega
            have hai : 2 * (k : Int) + 1 = (a : Int) := by omega
            have hpL := HPL.out a haL
            have c1 := hPa.cell a haL
            have hsuc := shL_succ code n k
            have hA : shA code n k = if shO code n (shP code n a) = true then -((((shP code n a + L - 1) % L + 1 : Nat)) : Int) else (((shP code n a + L - 1) % L + 1 : Nat) : Int) := by unfold shA; rw [ha, hln]
            obtain ⟨p, hp⟩ : ∃ p, shP code n a = p := ⟨_, rfl⟩
            rw [hp] at hpL hA
            unfold iv at c1
            rw [hp] at c1
            have c2 := hOa.cell p hpL
            unfold bv at c2
            obtain ⟨g, hg⟩ : ∃ g, p + L - 1 = g := ⟨_, rfl⟩
            rw [hg] at hA
            obtain ⟨r, hr⟩ : ∃ r, g % L = r := ⟨_, rfl⟩
            rw [hr] at hA
            have hrL : r < L := by rw [← hr]; exact Nat.mod_lt _ (by omega)
            have a0 : (0 : Int) ≤ (a : Int) := Int.natCast_nonneg _
            have a1 : (a : Int) < (L : Int) := by omega
            have p0 : (0 : Int) ≤ (p : Int) := Int.natCast_nonneg _
            have p1 : (p : Int) < (L : Int) := by omega
            have r0 : (0 : Int) ≤ (r : Int) := Int.natCast_nonneg _
            have r1 : (r : Int) < (L : Int) := by omega
            have hgi : (p : Int) + (L : Int) - 1 = (g : Int) := by omega
            have g0 : (0 : Int) ≤ (g : Int) := Int.natCast_nonneg _
            have g1 : (g : Int) ≤ 256 := by omega
            have ht1 : (a : Int).tmod (L : Int) = (a : Int) := by rw [Int.tmod_eq_emod_of_nonneg a0, Int.emod_eq_of_lt a0 a1]
            have ht2 : (g : Int).tmod (L : Int) = (r : Int) := by rw [Int.tmod_eq_emod_of_nonneg g0, ← hr]; omega
            have hw1 : IntKind.i64.wrap (a : Int) = (a : Int) := IntWalk.i64_in _ (by omega)
            have hw2 : IntKind.i64.wrap (r : Int) = (r : Int) := IntWalk.i64_in _ (by omega)
            have hw3 : IntKind.i64.wrap (g : Int) = (g : Int) := IntWalk.i64_in _ (by omega)
            have hw4 : IntKind.i64.wrap (L : Int) = (L : Int) := IntWalk.i64_in _ (by omega)
            have HO := Lib.hid hoi
            have HSU := Lib.hid hsuc
            have HA := Lib.hid hA
            clear hoi hPa hOa ha hp hg hr hsuc hA hln
            generalize shO code n p = E at *
            cases E with
            | false =>
              have HV1 : Hid (shA code n k = (r : Int) + 1) := Lib.hid (by rw [HA.out]; rw [if_neg (by simp)]; omega)
              go_wp2_with (first
                | (at_builtin
                   refine wpList_append_int rfl (.tmp 87) (.tmp 89) rfl wO.heap.size u9 ((List.range k).map (shA code n)) rfl (HO.out.alloc _) wr.heap.size ((r : Int) + 1) rfl (by rw [World.cell?_alloc_at _ _ _ _ rfl]; rfl) (by simp; omega) (by have := hbq.size; simp; omega) ?_
                   intro v7 w7 ho7 hg7
                   have hb7 : Below wO.heap.size wO w7 := (hbq.alloc hbq.size (.cells #[.int .i64 ((r : Int) + 1)] 3)).grown hg7 (by have := hbq.size; simp; omega) (fun q hq => (World.ownsRow.lt HO.out q hq).1)
                   have HO7 := Lib.hid ho7
                   clear ho7 hg7))
              go_roundw
              case rel => exact ⟨k + 1, by omega, by go_num, hb7, by rw [HSU.out, HV1.out]; exact HO7.out⟩
              case measure => simp [intOf]; omega
            | true =>
              have HV1 : Hid (shA code n k = -((r : Int) + 1)) := Lib.hid (by rw [HA.out]; rw [if_pos rfl]; omega)
              go_wp2_with (first
                | (at_builtin
                   refine wpList_append_int rfl (.tmp 87) (.tmp 89) rfl wO.heap.size u9 ((List.range k).map (shA code n)) rfl (HO.out.alloc _) wr.heap.size (-((r : Int) + 1)) rfl (by rw [World.cell?_alloc_at _ _ _ _ rfl]; rfl) (by simp; omega) (by have := hbq.size; simp; omega) ?_
                   intro v7 w7 ho7 hg7
                   have hb7 : Below wO.heap.size wO w7 := (hbq.alloc hbq.size (.cells #[.int .i64 (-((r : Int) + 1))] 3)).grown hg7 (by have := hbq.size; simp; omega) (fun q hq => (World.ownsRow.lt HO.out q hq).1)
                   have HO7 := Lib.hid ho7
                   clear ho7 hg7))
              go_roundw
              case rel => exact ⟨k + 1, by omega, by go_num, hb7, by rw [HSU.out, HV1.out]; exact HO7.out⟩
              case measure => simp [intOf]; omega
          · obtain rfl : n = k := by omega
            have HO := Lib.hid hoi
            obtain ⟨A1, c1', rfl⟩ : ∃ A1 c1', u9 = .slice A1 n c1' := by
              rcases OI.form hoi with ⟨rfl, e⟩ | ⟨g1, cap, rfl, _, _⟩
              · have := congrArg List.length e; simp at this; omega
              · exact ⟨some ⟨g1, 0, none⟩, cap, by rw [List.length_map, List.length_range]⟩
            clear hoi
            go_wp2
            go_ret
            exact ⟨A1, c1', rfl, OI.ri HO.out, below_step HBR.out hbq⟩

end Go.Proofs.Ytebliaclleplgaa

/- Plain: a code that is read from the next passage on draws the same diagram up to the numbering. -/
namespace Go.Proofs.Ytebliaclleplgaa

theorem ren_of {pA pB : Nat → Nat} {n : Nat} {f : Nat → Nat} (hp : Perm f n) (hi : Invol pB (4 * n)) (ha : ∀ h, h < 4 * n → pA h < 4 * n) (hm : ∀ h, h < 4 * n → pB (4 * f (h / 4) + h % 4) = 4 * f (pA h / 4) + pA h % 4) : Ren (lstN n f) n pB pA := by
  have ho : ∀ i, i < n → ordN (lstN n f) i = f i := fun i hi => by unfold ordN; rw [lstN_get hi]; rfl
  have hord : IsOrd (lstN n f) n := ⟨lstN_length _ _, fun i hi => by
    rw [lstN_get hi]; have := hp.lt i hi; omega, fun i j hij hj e => by
    rw [lstN_get (by omega), lstN_get hj] at e
    have := hp.inj i j (by omega) hj (by omega)
    omega⟩
  exact ⟨hord, hi, fun x hx => by
    have hw : wasH (lstN n f) x = 4 * f (x / 4) + x % 4 := by unfold wasH; rw [ho _ (by omega)]
    have hax := ha x hx
    have hw2 : wasH (lstN n f) (pA x) = 4 * f (pA x / 4) + pA x % 4 := by unfold wasH; rw [ho _ (by omega)]
    rw [hw, hm x hx, ← hw2, newH_was hord hax]⟩
theorem perm_back {n : Nat} {f : Nat → Nat} (hp : Perm f n) : ∃ g : Nat → Nat, Perm g n ∧ (∀ i, i < n → f (g i) = i) ∧ ∀ i, i < n → g (f i) = i := by
  classical
  have hex : ∀ i, i < n → ∃ j, j < n ∧ f j = i := fun i hi => hp.hit hi
  obtain ⟨g, hg⟩ : ∃ g : Nat → Nat, ∀ i, i < n → g i < n ∧ f (g i) = i :=
    ⟨fun i => if w : i < n then Classical.choose (hex i w) else 0, fun i hi => by
      simp only [dif_pos hi]; exact Classical.choose_spec (hex i hi)⟩
  refine ⟨g, ⟨fun i hi => (hg i hi).1, fun i j hi hj e => ?_⟩, fun i hi => (hg i hi).2, fun i hi => ?_⟩
  · rw [← (hg i hi).2, ← (hg j hj).2, e]
  · exact hp.inj _ _ (hg _ (hp.lt i hi)).1 hi (hg _ (hp.lt i hi)).2
theorem ren_back {pA pB : Nat → Nat} {n : Nat} {f : Nat → Nat} (hp : Perm f n) (hi : Invol pA (4 * n)) (hb : ∀ h, h < 4 * n → pB h < 4 * n) (hm : ∀ h, h < 4 * n → pB (4 * f (h / 4) + h % 4) = 4 * f (pA h / 4) + pA h % 4) : ∃ g, Ren (lstN n g) n pA pB := by
  obtain ⟨g, hg, h1, h2⟩ := perm_back hp
  refine ⟨g, ren_of hg hi hb fun h hh => ?_⟩
  have hx := hg.lt (h / 4) (by omega)
  have e1 : (4 * g (h / 4) + h % 4) / 4 = g (h / 4) := by omega
  have e2 : (4 * g (h / 4) + h % 4) % 4 = h % 4 := by omega
  have key := hm (4 * g (h / 4) + h % 4) (by omega)
  rw [e1, e2, h1 _ (by omega), show 4 * (h / 4) + h % 4 = h by omega] at key
  have hy := hi.lt (4 * g (h / 4) + h % 4) (by omega)
  generalize pA (4 * g (h / 4) + h % 4) = y at key hy ⊢
  have k1 : pB h / 4 = f (y / 4) := by omega
  have k2 : pB h % 4 = y % 4 := by omega
  rw [k1, h2 _ (by omega), k2]; omega

section
variable {code s : List Int} {n : Nat}
/-- The strand of a code's diagram from its second passage on. -/
def stS (code s : List Int) (n : Nat) : List Int := lstN (2 * n) fun p => exN code s n ((p + 1) % (2 * n))
theorem stS_get {p : Nat} (hp : p < 2 * n) : stN (stS code s n) p = exN code s n ((p + 1) % (2 * n)) := by
  unfold stN stS; rw [lstN_get hp]; rfl
theorem stS_cr {p : Nat} (hp : p < 2 * n) : cr (stS code s n) p = exN code s n ((p + 1) % (2 * n)) / 4 := by
  have := stS_get (code := code) (s := s) hp
  unfold stN at this
  unfold cr; rw [this]
theorem ex_odd (h : dvB code = true) (hn : code.length = n) {i : Nat} (hi : i < n) : exN code s n (2 * dhalf code i + 1) / 4 = i := by
  obtain ⟨a1, a2⟩ := exN_at s h (k := n) (i := i) hi (by omega)
  have e : ovN code i = 2 * dhalf code i + 1 ∨ unN code i = 2 * dhalf code i + 1 := by unfold ovN unN; split <;> simp
  rcases e with e | e
  · rw [← e, a1]
    rcases soN_cases (s.getD i 0) with q | q <;> rw [q] <;> omega
  · rw [← e, a2]; omega
theorem stS_even (h : dvB code = true) (hn : code.length = n) {a : Nat} (ha : a < n) : cr (stS code s n) (2 * dhalf code a) = a := by
  have hd := (dhalf_eq h (i := a) (by omega)).2
  rw [stS_cr (by omega), Nat.mod_eq_of_lt (by omega), ex_odd h hn ha]
theorem stS_odd (h : dvB code = true) (hn : code.length = n) {j : Nat} (hj : j < n) : cr (stS code s n) (2 * j + 1) = (j + 1) % n := by
  have hm := Nat.mod_lt (j + 1) (show 0 < n by omega)
  have e : (2 * j + 1 + 1) % (2 * n) = 2 * ((j + 1) % n) := by
    rw [show 2 * j + 1 + 1 = 2 * (j + 1) by omega, Nat.mul_mod_mul_left]
  rw [stS_cr (by omega), e, ex_even h hn hm]
theorem stS_knot (h : dvB code = true) (hn : code.length = n) (hs : sgnsB s = true) (hl : s.length = n) : KnotSt (stS code s n) n := by
  have hp := dhalf_perm h
  rw [hn] at hp
  refine ⟨lstN_length _ _, fun j hj => ?_, fun i j hi hj e => ?_, fun i j hi hj e => ?_⟩
  · have hm := Nat.mod_lt (j + 1) (show 0 < 2 * n by omega)
    have := (ex_out h hn hs hl hm).2.2
    rw [stS_cr hj]
    exact ⟨by unfold stS; rw [lstN_get hj]; omega, by omega⟩
  · obtain ⟨a, ha, ea⟩ := hp.hit hi
    obtain ⟨b, hb, eb⟩ := hp.hit hj
    rw [← ea, ← eb, stS_even h hn ha, stS_even h hn hb] at e
    rw [← ea, ← eb, e]
  · rw [stS_odd h hn hi, stS_odd h hn hj] at e
    exact succ_inj hi hj e
theorem shP_at (h : dvB code = true) {i : Nat} : ∀ k, k ≤ code.length → i < k → shP code k (2 * dhalf code i + 1) = 2 * i
  | 0, _, hi => by omega
  | k + 1, hk, hi => by
    show upd (upd (shP code k) (2 * k) (2 * dhalf code k + 1)) (2 * dhalf code k + 1) (2 * k) (2 * dhalf code i + 1) = 2 * i
    by_cases e : i = k
    · subst e; rw [upd_same]
    · have : dhalf code i ≠ dhalf code k := fun q => e ((dhalf_perm h).inj i k (by omega) (by omega) q)
      rw [upd_other _ _ _ _ (by omega), upd_other _ _ _ _ (by omega)]
      exact shP_at h k (by omega) (by omega)
theorem shO_at {i : Nat} : ∀ k, i < k → shO code k (2 * i) = decide (0 < code.getD i 0)
  | 0, hi => by omega
  | k + 1, hi => by
    show (if 2 * i = 2 * dhalf code k + 1 then decide (code.getD k 0 < 0) else if 2 * i = 2 * k then decide (0 < code.getD k 0) else shO code k (2 * i)) = _
    rw [if_neg (by omega)]
    by_cases e : i = k
    · subst e; rw [if_pos rfl]
    · rw [if_neg (by omega)]
      exact shO_at k (by omega)
theorem shL_cdF (h : dvB code = true) (hn : code.length = n) (hs : sgnsB s = true) (hl : s.length = n) : cdF (stS code s n) n = shL code n := by
  have K := stS_knot h hn hs hl
  have hp := dhalf_perm h
  rw [hn] at hp
  refine List.ext_getElem (by rw [cdF_length]; simp [shL]) fun i h1 h2 => ?_
  rw [cdF_length] at h1
  have g1 : (cdF (stS code s n) n)[i] = (cdF (stS code s n) n).getD i 0 := by simp [List.getD, cdF_length, h1]
  have g2 : (shL code n)[i] = shA code n i := by simp [shL]
  rw [g1, g2]
  obtain ⟨j, hj, e1, e2⟩ := K.mate h1
  obtain ⟨a, ha, ea⟩ := hp.hit h1
  rw [e2]
  rw [stS_odd h hn hj, ← ea, stS_even h hn ha] at e1
  unfold shA
  have hP : shP code n (2 * i + 1) = 2 * a := by rw [← ea]; exact shP_at h n (by omega) ha
  rw [hP, shO_at n ha]
  have hc := (dv_small h (i := a) (by omega)).2.1
  have hE : stN (stS code s n) (2 * j + 1) = exN code s n (2 * a) := by
    rw [stS_get (by omega), show 2 * j + 1 + 1 = 2 * (j + 1) by omega, Nat.mul_mod_mul_left, e1]
  have hpar : (stN (stS code s n) (2 * j + 1) % 2 = 1) ↔ 0 < code.getD a 0 := by
    rw [hE]
    obtain ⟨a1, a2⟩ := exN_at s h (k := n) (i := a) ha (by omega)
    have hz := soN_cases (s.getD a 0)
    unfold ovN at a1
    unfold unN at a2
    by_cases q : code.getD a 0 < 0
    · rw [if_pos q] at a1 a2
      rw [a2]; omega
    · rw [if_neg q] at a1 a2
      rw [a1]; omega
  have hnum : (2 * a + 2 * n - 1) % (2 * n) + 1 = 2 * j + 2 := by
    rw [succ_mod hj] at e1
    by_cases q : j + 1 = n
    · rw [if_pos q] at e1
      rw [← e1, show 2 * 0 + 2 * n - 1 = 2 * n - 1 by omega, Nat.mod_eq_of_lt (by omega)]; omega
    · rw [if_neg q] at e1
      rw [← e1, show 2 * (j + 1) + 2 * n - 1 = 2 * n + (2 * j + 1) by omega, Nat.add_mod_left, Nat.mod_eq_of_lt (by omega)]
  rw [hnum]
  show (if stN (stS code s n) (2 * j + 1) % 2 = 1 then -(2 * (j : Int) + 2) else 2 * (j : Int) + 2) = _
  by_cases q : 0 < code.getD a 0
  · rw [if_pos (hpar.2 q), decide_eq_true q, if_pos rfl]; omega
  · rw [if_neg (fun x => q (hpar.1 x)), decide_eq_false q, if_neg (by decide)]; omega
theorem shL_length (code : List Int) (n : Nat) : (shL code n).length = n := by simp [shL]
theorem shL_valid (h : dvB code = true) (hn : code.length = n) : dvB (shL code n) = true := by
  have h1 := ((dvB_iff code).1 h).1
  have h2 := ((dvB_iff code).1 h).2.1
  have hs : sgnsB (List.replicate n (1 : Int)) = true := by
    unfold sgnsB; rw [List.all_eq_true]; intro x hx; rw [List.eq_of_mem_replicate hx]; rfl
  rw [← shL_cdF h hn hs (by simp)]
  exact (stS_knot h hn hs (by simp)).valid (by omega) (by omega)
/-- The diagram of a code with signs is, up to the numbering, that of the next code with the signs moved along. -/
theorem shift_iso (h : dvB code = true) (hn : code.length = n) (hs : sgnsB s = true) (hl : s.length = n) : ∃ t f, t.length = n ∧ sgnsB t = true ∧ Perm f n ∧ (∀ i, i < n → t.getD i 0 = s.getD (f i) 0) ∧ (∀ a, a < n → f (dhalf code a) = a) ∧
    IsoF (matesOf (mkM (shL code n) t)) (matesOf (mkM code s)) (gz t) (gz s) n f := by
  have K := stS_knot h hn hs hl
  have hb := (dvB_iff code).1 h
  have hI := mk_invol h hn hs hl
  have hm : ∀ p, (p + 1) % (2 * n) < 2 * n := fun p => Nat.mod_lt _ (by omega)
  have hsg : ∀ i, i < n → s.getD i 0 = 1 ∨ s.getD i 0 = -1 := fun i hi => sg_cases hs (by omega)
  have hls : sgnsB (sgF s (stS code s n) n) = true := sgF_sg fun i hi => hsg _ (K.rg (2 * i) (by omega)).2
  have hout : ∀ p, p < 2 * n → outB s (stN (stS code s n) p) = true := fun p hp => by
    rw [stS_get hp]; exact (ex_out h hn hs hl (hm p)).1
  have hne : ∀ p q, p < 2 * n → q < 2 * n → p ≠ q → stN (stS code s n) p ≠ stN (stS code s n) q := fun p q hp hq hne e => by
    rw [stS_get hp, stS_get hq] at e
    exact hne (succ_inj hp hq (ex_inj h hn (hm p) (hm q) e))
  have F := back_iso (m := mkM code s) K (by omega) (by omega) hsg hls hout (fun p q hp hq hpq e => out_slots (hout p hp) (hout q hq) e (hne p q hp hq hpq)) (fun x hx => hI.lt x hx) (fun x hx => hI.inv x hx)
    (fun p hp => by rw [stS_get hp]; exact (ex_out h hn hs hl (hm p)).2.2)
    (fun p hp => by rw [stS_get hp, stS_get (hm p)]; exact mkM_out h hn hs hl (hm p))
  rw [shL_cdF h hn hs hl] at F
  exact ⟨_, _, sgF_length _ _ _, hls, K.evP, fun i hi => sgF_get hi, fun a ha => stS_even h hn ha, F⟩
theorem shift_valid {t : List Int} {f : Nat → Nat} (h : dvB code = true) (hn : code.length = n) (hs : sgnsB s = true) (hl : s.length = n) (ht : t.length = n) (hts : sgnsB t = true) (hf : Perm f n)
    (F : IsoF (matesOf (mkM (shL code n) t)) (matesOf (mkM code s)) (gz t) (gz s) n f) : validB t (mkM (shL code n) t) 0 = true ↔ validB s (mkM code s) 0 = true := by
  have h' := shL_valid h hn
  have hn' := shL_length code n
  have i1 := mk_invol h hn hs hl
  have i2 := mk_invol h' hn' hts ht
  rw [mk_valid h hn hs hl, mk_valid h' hn' hts ht]
  constructor
  · obtain ⟨g, r⟩ := ren_back hf i2 (fun x hx => i1.lt x hx) F.m
    exact r.sph
  · exact (ren_of hf i1 (fun x hx => i2.lt x hx) F.m).sph
/-- Signs of the next code come from signs of the code. -/
theorem shift_from {l : List Int} (h : dvB code = true) (hn : code.length = n) (hl : l.length = n) (hs : sgnsB l = true) : ∃ t f, t.length = n ∧ sgnsB t = true ∧ Perm f n ∧ IsoF (matesOf (mkM (shL code n) l)) (matesOf (mkM code t)) (gz l) (gz t) n f := by
  have hp := dhalf_perm h
  rw [hn] at hp
  have ht : (lstI n fun a => l.getD (dhalf code a) 0).length = n := lstI_length _ _
  have hts : sgnsB (lstI n fun a => l.getD (dhalf code a) 0) = true := (sgnsB_iff _).2 fun j hj => by
    rw [ht] at hj
    unfold sgB
    rw [lstI_get hj]
    rcases sg_cases hs (i := dhalf code j) (by have := hp.lt j hj; omega) with e | e <;> rw [e] <;> rfl
  obtain ⟨t, f, h1, _, h3, h4, h5, F⟩ := shift_iso h hn hts ht
  have e : t = l := by
    refine List.ext_getElem (by omega) fun i hi hi' => ?_
    obtain ⟨a, ha, ea⟩ := hp.hit (show i < n by omega)
    have := h4 i (by omega)
    rw [← ea, h5 a ha, lstI_get ha, ea] at this
    simpa [List.getD, hi, hi'] using this
  rw [e] at F
  exact ⟨_, f, ht, hts, h3, F⟩
end

theorem dgE_cases {code : List Int} {n : Nat} (h : dvB code = true) (hn : code.length = n) (h14 : n ≤ 14) : dgE code = 0 ∨ dgE code = 7 := by
  unfold dgE
  rw [h, if_neg (by decide), if_neg (by omega)]
  cases dgS code
  · exact .inr rfl
  · exact .inl rfl
theorem shift_dgE {code : List Int} {n : Nat} (h : dvB code = true) (hn : code.length = n) (h14 : n ≤ 14) : dgE (shL code n) = dgE code := by
  have h' := shL_valid h hn
  have hn' := shL_length code n
  rcases dgE_cases h hn h14 with e | e <;> rcases dgE_cases h' hn' h14 with e' | e'
  · rw [e, e']
  · obtain ⟨l, ok⟩ := dg_ok hn e
    have hsg := (bk_facts ok.valid).sg
    obtain ⟨t, f, h1, h2, h3, _, _, F⟩ := shift_iso h hn hsg ok.len
    rw [e, dgE_of h' hn' h14 h1 h2 ((shift_valid h hn hsg ok.len h1 h2 h3 F).2 ok.valid)]
  · obtain ⟨l, ok⟩ := dg_ok hn' e'
    have hsg := (bk_facts ok.valid).sg
    obtain ⟨t, f, h1, h2, h3, F⟩ := shift_from h hn ok.len hsg
    rw [e', dgE_of h hn h14 h1 h2 ((shift_valid h hn h2 h1 ok.len hsg h3 F).1 ok.valid)]
  · rw [e, e']
theorem shift_two {code l l' : List Int} {n : Nat} (ok : DgOk code l n) (ok' : DgOk (shL code n) l' n) (hn : code.length = n) (h2 : (allK code n (2 ^ n)).length = 2) :
    isoM (matesOf (mkM (shL code n) l')) (matesOf (mkM code l)) (gz l') (gz l) n = true ∨ isoM (matesOf (mkM (shL code n) l')) (fun h => rfN (matesOf (mkM code l) (rfN h))) (gz l') (gz (negs l n)) n = true := by
  have h := ok.dv
  have hsg := (bk_facts ok.valid).sg
  have hsg' := (bk_facts ok'.valid).sg
  obtain ⟨t, f, h3, h4, h5, F⟩ := shift_from h hn ok'.len hsg'
  have hv := (shift_valid h hn h4 h3 ok'.len hsg' h5 F).1 ok'.valid
  rcases back_two h hn h2 ok.len hsg ok.valid h3 h4 hv with e | e
  · left; rw [e] at F; exact isoM_true F
  · right
    rw [e] at F
    refine isoM_true (F.congr (fun x hx => ?_) (fun i hi => ?_))
    · have := mk_neg h hn hsg ok.len (rfN_lt hx)
      rwa [rfN_rfN] at this
    · rw [negs_get hi]; exact negL_get l i

end Go.Proofs.Ytebliaclleplgaa

/- Walk: the law DowkerShifts. -/
namespace Go.Proofs.Ytebliaclleplgaa
open Go.ChangeShapes Go.WideShapes Go.ChangeAt Go.RowKit Go.Joins

set_option maxHeartbeats 6400000 in
set_option maxRecDepth 100000 in
theorem dkshifts_walk (C : Option Addr) (n cc : Nat) (code : List Int) (w : World) (hC : RI w C n code) (hn : n ≤ 9223372036854775807) (hI : ∀ z ∈ code, inI z) :
    Calls Try.prog 4 #[.slice C n cc] w fun e w' => e = .returned (.bool true) ∧ Below w.heap.size w w' := by
  have CA := Lib.hid (dawake_any w)
  by_cases h6 : 6 < n
  · have h6' : 6 < (n : Int) := by omega
    clear hC hI
    go_enter Try.func4, Try.ntmps4
    go_wp2_with ((with_reducible refine CA.out.mono ?_); rintro e w1 ⟨rfl, hb1⟩)
    go_ret
    exact ⟨rfl, hb1⟩
  · have h6' : ¬ 6 < (n : Int) := by omega
    have CV : ∀ W, Below w.heap.size w W → Hid (Calls Try.prog 13 #[.slice C n cc] W fun e w' => e = .returned (.bool (dvB code)) ∧ Below W.heap.size W w') := fun W hb => dvalid_any C n cc code W (hC.keep hb) hn (inL_of hI)
    cases hv : dvB code with
    | false =>
      simp only [hv] at CV
      clear hC hI hv
      go_enter Try.func4, Try.ntmps4
      go_wp2_with (first
        | (go_at_call 5; ((with_reducible refine CA.out.mono ?_); rintro e w1 ⟨rfl, hb1⟩))
        | (go_at_call 13; ((with_reducible refine (CV _ hb1).out.mono ?_); rintro e w2 ⟨rfl, hb2⟩)))
      go_ret
      exact ⟨rfl, below_step hb1 hb2⟩
    | true =>
      simp only [hv] at CV
      have hl := hC.1
      have hpos : 0 < n := by have := (dvB_iff code).1 hv; omega
      have hIL := inL_of hI
      have hv' := shL_valid hv hl
      have hl' := shL_length code n
      have hI' := inL_dv hv'
      have hE := shift_dgE hv hl (by omega)
      have CS : ∀ W, Below w.heap.size w W → Hid (Calls Try.prog 14 #[.slice C n cc] W fun e w' => ∃ A c, e = .returned (.slice A n c) ∧ RI w' A n (shL code n) ∧ Below W.heap.size W w') := fun W hb => shift_any C n cc code W (hC.keep hb) hpos (by omega) hv hIL
      have CN : ∀ (W : World) (A : Option Addr) (c : Nat), RI W A n (shL code n) → Hid (Calls Try.prog 13 #[.slice A n c] W fun e w' => e = .returned (.bool true) ∧ Below W.heap.size W w') := fun W A c h => dvalid_r true A n c (shL code n) W h hn hI' hv'.symm
      by_cases hE0 : dgE code = 0
      · obtain ⟨l, ok⟩ := dg_ok hl hE0
        obtain ⟨l', ok'⟩ := dg_ok hl' (hE.trans hE0)
        have htwo := shift_two ok ok' hl
        have CD : ∀ W, Below w.heap.size w W → Hid (Calls Try.prog 9 #[.slice C n cc] W fun e w' => ∃ A cs B cm, e = .returned (.tuple #[dval A n cs B (4 * n) cm 0, .int .i64 0]) ∧ RI w' A n l ∧ RI w' B (4 * n) (mkM code l) ∧ Below W.heap.size W w') := fun W hb => by
          refine (dg_call C n cc code l W (hC.keep hb) hn hIL ok).mono ?_
          rintro e w' ⟨X, cs, B, cm, rfl, hd, hb⟩
          exact ⟨X, cs, B, cm, rfl, hd.hs, hd.hm, hb⟩
        have CX : ∀ (W : World) (A : Option Addr) (c : Nat), RI W A n (shL code n) → Hid (Calls Try.prog 9 #[.slice A n c] W fun e w' => ∃ A cs B cm, e = .returned (.tuple #[dval A n cs B (4 * n) cm 0, .int .i64 0]) ∧ RI w' A n l' ∧ RI w' B (4 * n) (mkM (shL code n) l') ∧ Below W.heap.size W w') := fun W A c h => by
          refine (dg_call A n c (shL code n) l' W h hn hI' ok').mono ?_
          rintro e w' ⟨X, cs, B, cm, rfl, hd, hb⟩
          exact ⟨X, cs, B, cm, rfl, hd.hs, hd.hm, hb⟩
        have CL : ∀ W, Below w.heap.size w W → Hid (Calls Try.prog 10 #[.slice C n cc] W (CycsPost W (allK code n (2 ^ n)))) := fun W hb => all_any C n cc code W (hC.keep hb) (by omega) hIL hv
        have CI : ∀ (W : World) (A B : Option Addr) (cs cm : Nat), RI W A n l → RI W B (4 * n) (mkM code l) → Hid (IsoC Try.prog W A B n cs (4 * n) cm l' (mkM (shL code n) l') (negs l n) (rfM (matesOf (mkM code l)) (4 * n)) (isoM (matesOf (mkM (shL code n) l')) (matesOf (mkM code l)) (gz l') (gz l) n) (isoM (matesOf (mkM (shL code n) l')) (fun h => rfN (matesOf (mkM code l) (rfN h))) (gz l') (gz (negs l n)) n)) := fun W A B cs cm h1 h2 =>
          isoC_of h1 h2 ok.valid ok'.valid ok'.len hpos rfl
        obtain ⟨M, hM⟩ : ∃ M, mkM code l = M := ⟨_, rfl⟩
        obtain ⟨M', hM'⟩ : ∃ M', mkM (shL code n) l' = M' := ⟨_, rfl⟩
        obtain ⟨sh, hsh⟩ : ∃ sh, shL code n = sh := ⟨_, rfl⟩
        obtain ⟨xss, hx⟩ : ∃ xss, allK code n (2 ^ n) = xss := ⟨_, rfl⟩
        obtain ⟨nm, hnm⟩ : ∃ nm, 4 * n = nm := ⟨_, rfl⟩
        obtain ⟨NS, hNS⟩ : ∃ NS, negs l n = NS := ⟨_, rfl⟩
        have hxl : xss.length ≤ 128 := by
          have := allK_le code n (2 ^ n)
          rw [hx] at this
          exact Nat.le_trans this (Nat.le_trans (Nat.pow_le_pow_right (by decide) (by omega : n ≤ 7)) (by decide))
        simp only [hM, hM', hNS, hnm] at CD CX CI htwo
        obtain ⟨RM, hRM⟩ : ∃ RM, rfM (matesOf M) nm = RM := ⟨_, rfl⟩
        obtain ⟨r1, hr1⟩ : ∃ r1, isoM (matesOf M') (matesOf M) (gz l') (gz l) n = r1 := ⟨_, rfl⟩
        obtain ⟨r2, hr2⟩ : ∃ r2, isoM (matesOf M') (fun h => rfN (matesOf M (rfN h))) (gz l') (gz NS) n = r2 := ⟨_, rfl⟩
        simp only [hRM, hr1, hr2] at CI htwo
        simp only [hx] at CL htwo
        simp only [hsh] at CS CN CX
        clear hC hI hl hpos hIL hv hv' hl' hI' hE hE0 ok ok' hM hM' hx hsh hnm hNS hRM hr1 hr2
        by_cases h2 : xss.length = 2
        · have h2' : ((xss.length : Int) == 2) = true := by simpa using (by omega : (xss.length : Int) = 2)
          have h2'' : ((xss.length : Int) != 2) = false := by rw [bne, h2']; rfl
          have hor := htwo h2
          clear htwo h2
          cases r1 with
          | true =>
            clear hor
            go_enter Try.func4, Try.ntmps4
            go_upto_region 12 with (first
              | (go_at_call 5; ((with_reducible refine CA.out.mono ?_); rintro e w1 ⟨rfl, hb1⟩))
              | (go_at_call 13; ((with_reducible refine (CN _ _ _ hr5).out.mono ?_); rintro e w6 ⟨rfl, hb6'⟩; have hb6v := below_step hb5 hb6'; have HD6v := Lib.hid (HD5.out.keep hb6'); have HX6v := Lib.hid (HX5.out.keep hb6'); have hA6 := hA5.keep hb6'; have hB6 := hB5.keep hb6'; have hX6v := hX5.keep hb6'; have hY6v := hY5.keep hb6'))
              | (go_at_call 13; ((with_reducible refine (CV _ hb1).out.mono ?_); rintro e w2 ⟨rfl, hb2'⟩; have hb2 := below_step hb1 hb2'))
              | (go_at_call 14; ((with_reducible refine (CS _ hb2).out.mono ?_); rintro e w3 ⟨A3, c3, rfl, hr3, hb3'⟩; have hb3 := below_step hb2 hb3'))
              | (go_at_call 9; ((with_reducible refine (CX _ _ _ hr4).out.mono ?_); rintro e w5 ⟨X, xc, Y, yc, rfl, hX, hY, hb5'⟩; have hb5a := below_alloc w5 (dbox X n xc Y nm yc 0); have hb5 := below_step (below_step hb4 hb5') hb5a; have hr5 := (hr4.keep hb5').keep hb5a; have HD5 := Lib.hid ((HD4.out.keep hb5').keep hb5a); have HX5 := Lib.hid (DB.new w5 X n xc Y nm yc 0); have hA5 := (hA4.keep hb5').keep hb5a; have hB5 := (hB4.keep hb5').keep hb5a; have hX5 := hX.keep hb5a; have hY5 := hY.keep hb5a))
              | (go_at_call 9; ((with_reducible refine (CD _ hb3).out.mono ?_); rintro e w4 ⟨A, cs, B, cm, rfl, hA, hB, hb4'⟩; have hb4a := below_alloc w4 (dbox A n cs B nm cm 0); have hb4 := below_step (below_step hb3 hb4') hb4a; have hr4 := (hr3.keep hb4').keep hb4a; have HD4 := Lib.hid (DB.new w4 A n cs B nm cm 0); have hA4 := hA.keep hb4a; have hB4 := hB.keep hb4a))
              | (go_at_call 10; ((with_reducible refine (CL _ hb6v).out.mono ?_); rintro e w7 ⟨v7, rfl, ho7, hb7'⟩; obtain ⟨A7, c7, rfl, hro⟩ := ho7.ro; clear ho7 hro; have hb6 := below_step hb6v hb7'; have CJ := CI _ _ _ cs cm (hA6.keep hb7') (hB6.keep hb7'); have HD6 := Lib.hid (HD6v.out.keep hb7'); have HX6 := Lib.hid (HX6v.out.keep hb7'); have hX6 := hX6v.keep hb7'; have hY6 := hY6v.keep hb7')))
            generalize hgD : w4.heap.size = gD at HD6
            clear hgD
            obtain ⟨p0, p1, p2, plt⟩ := HD6.out
            obtain ⟨q0, q1, q2, qlt⟩ := HX6.out
            generalize hgX : w5.heap.size = gX at q0 q1 q2 qlt ⊢
            have HXR := Lib.hid hX6
            have HYR := Lib.hid hY6
            have hbD : Below w7.heap.size w7 w7.drew := (Below.refl _ _).drew
            clear hX6 hY6 hgX
            go_region_with ((go_at_call 11; ((with_reducible refine (CJ.out.one _ _ _ _ _ hbD (HXR.out.keep hbD) (HYR.out.keep hbD)).mono ?_); rintro e wa ⟨rfl, hb7'⟩; have hb7 := below_step hbD hb7')))
            all_goals (go_wp2; go_ret; exact ⟨rfl, below_step hb6 hb7⟩)
          | false =>
            obtain rfl : r2 = true := by simpa using hor
            clear hor
            go_enter Try.func4, Try.ntmps4
            go_upto_region 12 with (first
              | (go_at_call 5; ((with_reducible refine CA.out.mono ?_); rintro e w1 ⟨rfl, hb1⟩))
              | (go_at_call 13; ((with_reducible refine (CN _ _ _ hr5).out.mono ?_); rintro e w6 ⟨rfl, hb6'⟩; have hb6v := below_step hb5 hb6'; have HD6v := Lib.hid (HD5.out.keep hb6'); have HX6v := Lib.hid (HX5.out.keep hb6'); have hA6 := hA5.keep hb6'; have hB6 := hB5.keep hb6'; have hX6v := hX5.keep hb6'; have hY6v := hY5.keep hb6'))
              | (go_at_call 13; ((with_reducible refine (CV _ hb1).out.mono ?_); rintro e w2 ⟨rfl, hb2'⟩; have hb2 := below_step hb1 hb2'))
              | (go_at_call 14; ((with_reducible refine (CS _ hb2).out.mono ?_); rintro e w3 ⟨A3, c3, rfl, hr3, hb3'⟩; have hb3 := below_step hb2 hb3'))
              | (go_at_call 9; ((with_reducible refine (CX _ _ _ hr4).out.mono ?_); rintro e w5 ⟨X, xc, Y, yc, rfl, hX, hY, hb5'⟩; have hb5a := below_alloc w5 (dbox X n xc Y nm yc 0); have hb5 := below_step (below_step hb4 hb5') hb5a; have hr5 := (hr4.keep hb5').keep hb5a; have HD5 := Lib.hid ((HD4.out.keep hb5').keep hb5a); have HX5 := Lib.hid (DB.new w5 X n xc Y nm yc 0); have hA5 := (hA4.keep hb5').keep hb5a; have hB5 := (hB4.keep hb5').keep hb5a; have hX5 := hX.keep hb5a; have hY5 := hY.keep hb5a))
              | (go_at_call 9; ((with_reducible refine (CD _ hb3).out.mono ?_); rintro e w4 ⟨A, cs, B, cm, rfl, hA, hB, hb4'⟩; have hb4a := below_alloc w4 (dbox A n cs B nm cm 0); have hb4 := below_step (below_step hb3 hb4') hb4a; have hr4 := (hr3.keep hb4').keep hb4a; have HD4 := Lib.hid (DB.new w4 A n cs B nm cm 0); have hA4 := hA.keep hb4a; have hB4 := hB.keep hb4a))
              | (go_at_call 10; ((with_reducible refine (CL _ hb6v).out.mono ?_); rintro e w7 ⟨v7, rfl, ho7, hb7'⟩; obtain ⟨A7, c7, rfl, hro⟩ := ho7.ro; clear ho7 hro; have hb6 := below_step hb6v hb7'; have CJ := CI _ _ _ cs cm (hA6.keep hb7') (hB6.keep hb7'); have HD6 := Lib.hid (HD6v.out.keep hb7'); have HX6 := Lib.hid (HX6v.out.keep hb7'); have hX6 := hX6v.keep hb7'; have hY6 := hY6v.keep hb7')))
            generalize hgD : w4.heap.size = gD at HD6
            clear hgD
            obtain ⟨p0, p1, p2, plt⟩ := HD6.out
            obtain ⟨q0, q1, q2, qlt⟩ := HX6.out
            generalize hgX : w5.heap.size = gX at q0 q1 q2 qlt ⊢
            have HXR := Lib.hid hX6
            have HYR := Lib.hid hY6
            have hbD : Below w7.heap.size w7 w7.drew := (Below.refl _ _).drew
            clear hX6 hY6 hgX
            go_region_held3 (fun w' => (w'.cell? ⟨gX, 0, none⟩ = some (.slice X n xc) ∧ w'.cell? ⟨gX, 1, none⟩ = some (.slice Y nm yc) ∧ w'.cell? ⟨gX, 2, none⟩ = some (.int .i64 0)) ∧ (w'.cell? ⟨gD, 0, none⟩ = some (.slice A n cs) ∧ w'.cell? ⟨gD, 1, none⟩ = some (.slice B nm cm) ∧ w'.cell? ⟨gD, 2, none⟩ = some (.int .i64 0)))
              (first
                | go_keep
                | exact ⟨⟨(hb9.cell (p := ⟨gX, 0, none⟩) qlt).trans q0, (hb9.cell (p := ⟨gX, 1, none⟩) qlt).trans q1, (hb9.cell (p := ⟨gX, 2, none⟩) qlt).trans q2⟩, ⟨(hb9.cell (p := ⟨gD, 0, none⟩) plt).trans p0, (hb9.cell (p := ⟨gD, 1, none⟩) plt).trans p1, (hb9.cell (p := ⟨gD, 2, none⟩) plt).trans p2⟩⟩
                | exact ⟨⟨(hb8.cell (p := ⟨gX, 0, none⟩) qlt).trans q0, (hb8.cell (p := ⟨gX, 1, none⟩) qlt).trans q1, (hb8.cell (p := ⟨gX, 2, none⟩) qlt).trans q2⟩, ⟨(hb8.cell (p := ⟨gD, 0, none⟩) plt).trans p0, (hb8.cell (p := ⟨gD, 1, none⟩) plt).trans p1, (hb8.cell (p := ⟨gD, 2, none⟩) plt).trans p2⟩⟩
                | exact ⟨⟨(hb7.cell (p := ⟨gX, 0, none⟩) qlt).trans q0, (hb7.cell (p := ⟨gX, 1, none⟩) qlt).trans q1, (hb7.cell (p := ⟨gX, 2, none⟩) qlt).trans q2⟩, ⟨(hb7.cell (p := ⟨gD, 0, none⟩) plt).trans p0, (hb7.cell (p := ⟨gD, 1, none⟩) plt).trans p1, (hb7.cell (p := ⟨gD, 2, none⟩) plt).trans p2⟩⟩)
              (first
                | (go_at_call 11; ((with_reducible refine (CJ.out.two _ _ _ _ _ _ _ _ _ (HXR.out.keep hb8) (HYR.out.keep hb8) hN8 hR8).mono ?_); rintro e w9 ⟨rfl, hb9'⟩; have hb9 := below_step hb8 hb9'))
                | (go_at_call 12; ((with_reducible refine (CJ.out.refl _ hb7).mono ?_); rintro e w8 ⟨A8, c8, B8, rfl, hN8, hR8, hb8'⟩; have hb8 := below_step hb7 hb8'))
                | (go_at_call 11; ((with_reducible refine (CJ.out.one _ _ _ _ _ hbD (HXR.out.keep hbD) (HYR.out.keep hbD)).mono ?_); rintro e wa ⟨rfl, hb7'⟩; have hb7 := below_step hbD hb7')))
            go_wp2
            go_ret
            exact ⟨rfl, below_step hb6 hb9⟩
        · have h2' : ((xss.length : Int) == 2) = false := by simp; omega
          have h2'' : ((xss.length : Int) != 2) = true := by rw [bne, h2']; rfl
          clear htwo h2 CI
          go_enter Try.func4, Try.ntmps4
          go_wp2_with (first
            | (go_at_call 5; ((with_reducible refine CA.out.mono ?_); rintro e w1 ⟨rfl, hb1⟩))
            | (go_at_call 13; ((with_reducible refine (CN _ _ _ hr5).out.mono ?_); rintro e w6 ⟨rfl, hb6'⟩; have hb6v := below_step hb5 hb6'; have HD6v := Lib.hid (HD5.out.keep hb6'); have HX6v := Lib.hid (HX5.out.keep hb6'); have hA6 := hA5.keep hb6'; have hB6 := hB5.keep hb6'; have hX6v := hX5.keep hb6'; have hY6v := hY5.keep hb6'))
            | (go_at_call 13; ((with_reducible refine (CV _ hb1).out.mono ?_); rintro e w2 ⟨rfl, hb2'⟩; have hb2 := below_step hb1 hb2'))
            | (go_at_call 14; ((with_reducible refine (CS _ hb2).out.mono ?_); rintro e w3 ⟨A3, c3, rfl, hr3, hb3'⟩; have hb3 := below_step hb2 hb3'))
            | (go_at_call 9; ((with_reducible refine (CX _ _ _ hr4).out.mono ?_); rintro e w5 ⟨X, xc, Y, yc, rfl, hX, hY, hb5'⟩; have hb5a := below_alloc w5 (dbox X n xc Y nm yc 0); have hb5 := below_step (below_step hb4 hb5') hb5a; have hr5 := (hr4.keep hb5').keep hb5a; have HD5 := Lib.hid ((HD4.out.keep hb5').keep hb5a); have HX5 := Lib.hid (DB.new w5 X n xc Y nm yc 0); have hA5 := (hA4.keep hb5').keep hb5a; have hB5 := (hB4.keep hb5').keep hb5a; have hX5 := hX.keep hb5a; have hY5 := hY.keep hb5a))
            | (go_at_call 9; ((with_reducible refine (CD _ hb3).out.mono ?_); rintro e w4 ⟨A, cs, B, cm, rfl, hA, hB, hb4'⟩; have hb4a := below_alloc w4 (dbox A n cs B nm cm 0); have hb4 := below_step (below_step hb3 hb4') hb4a; have hr4 := (hr3.keep hb4').keep hb4a; have HD4 := Lib.hid (DB.new w4 A n cs B nm cm 0); have hA4 := hA.keep hb4a; have hB4 := hB.keep hb4a))
            | (go_at_call 10; ((with_reducible refine (CL _ hb6v).out.mono ?_); rintro e w7 ⟨v7, rfl, ho7, hb7'⟩; obtain ⟨A7, c7, rfl, hro⟩ := ho7.ro; clear ho7 hro; have hb6 := below_step hb6v hb7'; have HD6 := Lib.hid (HD6v.out.keep hb7'); have HX6 := Lib.hid (HX6v.out.keep hb7'); have hX6 := hX6v.keep hb7'; have hY6 := hY6v.keep hb7')))
          go_ret
          exact ⟨rfl, hb6⟩
      · obtain ⟨ez, hez⟩ : ∃ ez, dgE code = ez := ⟨_, rfl⟩
        rw [hez] at hE0 hE
        have CD : ∀ W, Below w.heap.size w W → Hid (Calls Try.prog 9 #[.slice C n cc] W fun e w' => ∃ A ns cs B nm cm, e = .returned (.tuple #[dval A ns cs B nm cm 0, .int .i64 ez]) ∧ Below W.heap.size W w') := fun W hb => dg_no C n cc code W (hC.keep hb) hn hIL ez hez
        have CX : ∀ (W : World) (A : Option Addr) (c : Nat), RI W A n (shL code n) → Hid (Calls Try.prog 9 #[.slice A n c] W fun e w' => ∃ A ns cs B nm cm, e = .returned (.tuple #[dval A ns cs B nm cm 0, .int .i64 ez]) ∧ Below W.heap.size W w') := fun W A c h => dg_no A n c (shL code n) W h hn hI' ez hE
        have hE' : (ez == 0) = false := by simpa using hE0
        have hE1 : (ez != 0) = true := by rw [bne, hE']; rfl
        have hE2 : (ez == ez) = true := beq_self_eq_true ez
        have hE3 : (ez != ez) = false := by rw [bne, hE2]; rfl
        obtain ⟨sh, hsh⟩ : ∃ sh, shL code n = sh := ⟨_, rfl⟩
        simp only [hsh] at CS CN CX
        clear hC hI hl hpos hIL hv hv' hl' hI' hE hE0 hez hsh
        go_enter Try.func4, Try.ntmps4
        go_wp2_with (first
          | (go_at_call 5; ((with_reducible refine CA.out.mono ?_); rintro e w1 ⟨rfl, hb1⟩))
          | (go_at_call 13; ((with_reducible refine (CN _ _ _ hr5).out.mono ?_); rintro e w6 ⟨rfl, hb6'⟩; have hb6v := below_step hb5 hb6'))
          | (go_at_call 13; ((with_reducible refine (CV _ hb1).out.mono ?_); rintro e w2 ⟨rfl, hb2'⟩; have hb2 := below_step hb1 hb2'))
          | (go_at_call 14; ((with_reducible refine (CS _ hb2).out.mono ?_); rintro e w3 ⟨A3, c3, rfl, hr3, hb3'⟩; have hb3 := below_step hb2 hb3'))
          | (go_at_call 9; ((with_reducible refine (CX _ _ _ hr4).out.mono ?_); rintro e w5 ⟨X, xs, xc, Y, ym, yc, rfl, hb5'⟩; have hb5a := below_alloc w5 (dbox X xs xc Y ym yc 0); have hb5 := below_step (below_step hb4 hb5') hb5a; have hr5 := (hr4.keep hb5').keep hb5a))
          | (go_at_call 9; ((with_reducible refine (CD _ hb3).out.mono ?_); rintro e w4 ⟨A, ns, cs, B, nm, cm, rfl, hb4'⟩; have hb4a := below_alloc w4 (dbox A ns cs B nm cm 0); have hb4 := below_step (below_step hb3 hb4') hb4a; have hr4 := (hr3.keep hb4').keep hb4a)))
        go_ret
        exact ⟨rfl, hb6v⟩

end Go.Proofs.Ytebliaclleplgaa
