/- Walk: lengths: two lists of lists have as many rows of each length. -/
import Derived.Test.YtcllnoigppkjiaaManyPlain
import Derived.Test.YtcllnoigppkjiaaInts
import Derived.Maps.RangeWalk
import Derived.Maps.OwnOps
import Derived.Maps.Views
import Derived.Maps.OwnSet
import Derived.Test.YtcllnoigppkjiaaApart
namespace Go.Proofs.Ytcllnoigppkjiaa
open Go.RowKit Go.Maps

theorem lawInt : Keyed Try.prog 3 := int_keyed Try.underlying3
theorem zeroInt (w : World) : (zeroValue 3).run Try.prog w = .ok (.int .i64 0) w := by kernel_rfl
/-- How many of the first k rows have the length x. -/
def cntZ (xss : List (List Int)) (k : Nat) (x : Int) : Int := ((xss.take k).countP (fun r => decide ((r.length : Int) = x)) : Nat)
theorem cntZ_zero (xss : List (List Int)) (x : Int) : cntZ xss 0 x = 0 := by simp [cntZ]
theorem cntZ_succ {xss : List (List Int)} {k : Nat} (h : k < xss.length) (x : Int) : cntZ xss (k + 1) x = cntZ xss k x + if ((xss.getD k []).length : Int) = x then 1 else 0 := by
  unfold cntZ
  rw [List.take_succ_eq_append_getElem h, List.countP_append]
  have e : xss.getD k [] = xss[k] := by simp [List.getD, h]
  rw [e]
  by_cases e2 : ((xss[k]).length : Int) = x <;> simp [e2]
theorem cntZ_le (xss : List (List Int)) (k : Nat) (x : Int) : 0 ≤ cntZ xss k x ∧ cntZ xss k x ≤ k := by
  unfold cntZ
  have h1 : (xss.take k).countP (fun r => decide ((r.length : Int) = x)) ≤ (xss.take k).length := List.countP_le_length
  have h2 : (xss.take k).length ≤ k := by rw [List.length_take]; omega
  omega
theorem cntZ_eq {xss yss : List (List Int)} (h : ∀ k, many xss k = many yss k) (x : Int) : cntZ xss xss.length x = cntZ yss yss.length x := by
  unfold cntZ
  rw [List.take_length, List.take_length]
  by_cases hx : 0 ≤ x
  · obtain ⟨n, rfl⟩ := Int.eq_ofNat_of_zero_le hx
    have e : ∀ zss : List (List Int), zss.countP (fun r => decide ((r.length : Int) = (n : Int))) = many zss n := fun zss => by
      unfold many
      exact List.countP_congr fun r _ => by simp; omega
    rw [e, e, h n]
  · have e : ∀ zss : List (List Int), zss.countP (fun r => decide ((r.length : Int) = x)) = 0 := fun zss => by
      rw [List.countP_eq_zero]
      intro r _ q
      have := of_decide_eq_true q
      omega
    rw [e, e]
/-- The map reads as the counts f. -/
def DMap (D : DataW Unit) (f : Int → Int) : Prop := ∀ x : Int, D.atKey (.int .i64 x) (.lit (.int .i64 0)) = .lit (.int .i64 (f x))
theorem DMap.put {D : DataW Unit} {f : Int → Int} (h : DMap D f) (hD : IsMap D) (n c : Int) (_hw : (Lit.int .i64 n).wf = true) : DMap (D.put (.int .i64 n) (.lit (.int .i64 c))) (fun x => if x = n then c else f x) := fun x => by
  by_cases e : x = n
  · subst e
    simp only [if_pos]
    exact atKey_put_same hD (show WideAt.IsKeyLit (.int .i64 x) from trivial) _ _
  · simp only [if_neg e]
    rw [atKey_put_other (fun e' => e (by injection e'))]
    exact h x

theorem cnt_up {xss : List (List Int)} {k n' : Nat} (h : ∀ x, cntZ xss (k + 1) x = cntZ xss k x + if (n' : Int) = x then 1 else 0) (f : Int → Int) : (fun x => if x = (n' : Int) then (cntZ xss k n' - f n') + 1 else cntZ xss k x - f x) = fun x => cntZ xss (k + 1) x - f x := by
  funext x
  rw [h x]
  by_cases e : x = (n' : Int)
  · subst e; simp; omega
  · have e' : ¬ ((n' : Int) = x) := fun q => e q.symm
    simp [e, e']
theorem cnt_down {yss : List (List Int)} {k n' : Nat} (h : ∀ x, cntZ yss (k + 1) x = cntZ yss k x + if (n' : Int) = x then 1 else 0) (f : Int → Int) : (fun x => if x = (n' : Int) then (f n' - cntZ yss k n') - 1 else f x - cntZ yss k x) = fun x => f x - cntZ yss (k + 1) x := by
  funext x
  rw [h x]
  by_cases e : x = (n' : Int)
  · subst e; simp; omega
  · have e' : ¬ ((n' : Int) = x) := fun q => e q.symm
    simp [e, e']

set_option maxHeartbeats 3200000 in
set_option maxRecDepth 100000 in
theorem lengths_any (A B : Option Addr) (n c m d : Nat) (xss yss : List (List Int)) (w : World) (hx : RO w A n xss) (hy : RO w B m yss) (hn : n ≤ 256) (hm : m ≤ 256) (hxr : ∀ j, (xss.getD j []).length ≤ 1000) (hyr : ∀ j, (yss.getD j []).length ≤ 1000) (hs : ∀ k, many xss k = many yss k) :
    Calls Try.prog 39 #[.slice A n c, .slice B m d] w fun e w' => e = .returned (.bool true) ∧ Below w.heap.size w w' := by
  have hmm := @run_makeMap Try.prog
  have hlx := hx.1
  have hly := hy.1
  have HLX := Lib.hid hlx
  have HLY := Lib.hid hly
  have HS := Lib.hid hs
  have HXR := Lib.hid hxr
  have HYR := Lib.hid hyr
  clear hlx hly hs hxr hyr
  go_enter Try.func39, Try.ntmps39
  go_wp2
  clear hmm
  go_loopw [7, 15] (fun _ i wr => ∃ k : Nat, k ≤ n ∧ i = .int .i64 k ∧ Below w.heap.size w wr ∧ ∃ D : DataW Unit, wr.ownsMap Try.prog 3 (plainElem Try.prog 3) w.heap.size k D ∧ DMap D (fun x => cntZ xss k x - cntZ yss 0 x)) (fun _ i _ => n - (intOf i).toNat)
  case atStart => exact ⟨0, by omega, rfl, (Below.refl _ _).alloc (Nat.le_refl _) _, _, World.ownsMap_made _ _ _ _, fun x => by simp only [cntZ_zero]; rfl⟩
  case round =>
    obtain ⟨k, hk, rfl, hbr, D, hown, hD⟩ := hrel
    have hk0 : (0 : Int) ≤ (k : Int) := Int.natCast_nonneg _
    have hlt0 := hown.lt
    by_cases hlt : k < n
    · obtain ⟨b, off, hA, hb, hc⟩ := (hx.keep hbr).2 (by omega)
      subst hA
      obtain ⟨A', n', c', h1, hrow⟩ := hc k hlt
      have hn' : (xss.getD k []).length = n' := hrow.1
      have hn2 : n' ≤ 1000 := by rw [← hn']; exact HXR.out k
      have hk1 : (k : Int) < (n : Int) := by omega
      have hsucc := cntZ_succ (xss := xss) (k := k) (by rw [HLX.out]; exact hlt)
      have hwf : (Lit.int .i64 (n' : Int)).wf = true := WalkArith.wf_i64 (by omega)
      have hcle := cntZ_le xss k n'
      rw [hn'] at hsucc
      have HSU := Lib.hid hsucc
      have HD := Lib.hid hD
      have HWF := Lib.hid hwf
      have hz0 : cntZ yss 0 n' = 0 := cntZ_zero _ _
      have HZ0 := Lib.hid hz0
      clear hc hrow hn' hsucc hD hz0 hwf
      obtain ⟨cv0, hcv0⟩ : ∃ cv0, cntZ xss k n' - cntZ yss 0 n' = cv0 := ⟨_, rfl⟩
      have hb1 : 0 ≤ cv0 := by have := HZ0.out; omega
      have hb2 : cv0 ≤ 256 := by have := HZ0.out; omega
      have HCV := Lib.hid hcv0
      clear hcv0 hcle
      go_wp2_with (first
        | (at_lookup; refine wpList_lookup_own_int _ rfl _ _ 60 rfl 3 3 .i64 lawInt Try.underlying60 Try.underlying3 (zeroInt _) w.heap.size k _ rfl hown _ _ rfl (keyOf_int_mk Try.underlying3 HWF.out) ?_; intro cv hat hwc; obtain rfl : cv = cv0 := (by have h2 := HD.out n'; rw [h2] at hat; injection hat with hat; injection hat with _ hat; rw [← HCV.out, ← hat]); clear hat hwc)
        | (at_mapUpdate; refine wpList_mapUpdate_own _ rfl _ _ _ 60 rfl 3 3 lawInt Try.underlying60 _ w.heap.size k _ rfl hown (by unfold maxLen; omega) _ _ _ rfl rfl (keyOf_int_mk Try.underlying3 HWF.out) _ [] (plainElem_int Try.underlying3 (WalkArith.wf_i64 (by omega))) ?_; intro w2 hown2 hg2))
      have hb3 := grown_below hbr hg2 (Nat.le_of_lt hlt0) (Nat.le_refl _)
      have hD2 := HD.out.put hown.isMap n' (cv + 1) HWF.out
      rw [← HCV.out, cnt_up HSU.out (cntZ yss 0)] at hD2
      rw [HCV.out] at hD2
      have HD2 := Lib.hid hD2
      clear hD2
      go_roundw
      case rel => exact ⟨k + 1, by omega, by go_num, hb3, _, hown2, HD2.out⟩
      case measure => simp [intOf]; omega
    · obtain rfl : n = k := by omega
      have hD0 : DMap D (fun x => cntZ xss xss.length x - cntZ yss 0 x) := by rw [HLX.out]; exact hD
      have HD0 := Lib.hid hD0
      have hmn : m ≤ m := Nat.le_refl _
      clear hD hlt hk hk0 hD0
      obtain ⟨wA, hwA⟩ : ∃ wA : World, wA = wr := ⟨_, rfl⟩
      subst hwA
      go_wp2
      go_loopw [9, 27] (fun _ i wr => ∃ k : Nat, k ≤ m ∧ i = .int .i64 k ∧ Below w.heap.size w wr ∧ ∃ D : DataW Unit, wr.ownsMap Try.prog 3 (plainElem Try.prog 3) w.heap.size (n + k) D ∧ DMap D (fun x => cntZ xss xss.length x - cntZ yss k x)) (fun _ i _ => m - (intOf i).toNat)
      case atStart => exact ⟨0, by omega, rfl, hbr, _, hown, HD0.out⟩
      case round =>
        obtain ⟨k, hk, rfl, hbr, D, hown, hD⟩ := hrel
        have hk0 : (0 : Int) ≤ (k : Int) := Int.natCast_nonneg _
        have hlt0 := hown.lt
        by_cases hlt : k < m
        · obtain ⟨b, off, hA, hb, hc⟩ := (hy.keep hbr).2 (by omega)
          subst hA
          obtain ⟨A', n', c', h1, hrow⟩ := hc k hlt
          have hn' : (yss.getD k []).length = n' := hrow.1
          have hn2 : n' ≤ 1000 := by rw [← hn']; exact HYR.out k
          have hk1 : (k : Int) < (m : Int) := by omega
          have hsucc := cntZ_succ (xss := yss) (k := k) (by rw [HLY.out]; exact hlt)
          have hwf : (Lit.int .i64 (n' : Int)).wf = true := WalkArith.wf_i64 (by omega)
          have hcle := cntZ_le yss k n'
          have hcle' := cntZ_le xss xss.length n'
          rw [HLX.out] at hcle'
          rw [hn'] at hsucc
          have HSU := Lib.hid hsucc
          have HD := Lib.hid hD
          have HWF := Lib.hid hwf
          clear hc hrow hn' hsucc hD hwf
          obtain ⟨cv0, hcv0⟩ : ∃ cv0, cntZ xss xss.length n' - cntZ yss k n' = cv0 := ⟨_, rfl⟩
          have hb1 : -256 ≤ cv0 := by rw [← hcv0, HLX.out]; omega
          have hb2 : cv0 ≤ 256 := by rw [← hcv0, HLX.out]; omega
          have HCV := Lib.hid hcv0
          clear hcv0 hcle hcle'
          go_wp2_with (first
            | (at_lookup; refine wpList_lookup_own_int _ rfl _ _ 60 rfl 3 3 .i64 lawInt Try.underlying60 Try.underlying3 (zeroInt _) w.heap.size (n + k) _ rfl hown _ _ rfl (keyOf_int_mk Try.underlying3 HWF.out) ?_; intro cv hat hwc; obtain rfl : cv = cv0 := (by have h2 := HD.out n'; rw [h2] at hat; injection hat with hat; injection hat with _ hat; rw [← HCV.out, ← hat]); clear hat hwc)
            | (at_mapUpdate; refine wpList_mapUpdate_own _ rfl _ _ _ 60 rfl 3 3 lawInt Try.underlying60 _ w.heap.size (n + k) _ rfl hown (by unfold maxLen; omega) _ _ _ rfl rfl (keyOf_int_mk Try.underlying3 HWF.out) _ [] (plainElem_int Try.underlying3 (WalkArith.wf_i64 (by omega))) ?_; intro w2 hown2 hg2))
          have hb3 := grown_below hbr hg2 (Nat.le_of_lt hlt0) (Nat.le_refl _)
          have hD2 := HD.out.put hown.isMap n' (cv - 1) HWF.out
          rw [← HCV.out, cnt_down HSU.out (cntZ xss xss.length)] at hD2
          rw [HCV.out] at hD2
          have HD2 := Lib.hid hD2
          clear hD2
          go_roundw
          case rel => exact ⟨k + 1, by omega, by go_num, hb3, _, hown2, HD2.out⟩
          case measure => simp [intOf]; omega
        · obtain rfl : m = k := by omega
          have hDz : DMap D (fun _ => 0) := fun x => by
            have := hD x
            rw [this]
            have e := cntZ_eq HS.out x
            rw [← HLY.out]
            simp only [e, Int.sub_self]
          have HDZ := Lib.hid hDz
          obtain ⟨wA, hwA⟩ : ∃ wA : World, wA = wr := ⟨_, rfl⟩
          subst hwA
          have hbA := hbr
          have hszA := hbr.size
          clear hD hlt hk hk0 hDz hbr
          go_wp2_with (at_range; refine wpList_range_own _ rfl _ 60 rfl 3 3 lawInt Try.underlying60 _ w.heap.size (n + m) _ rfl hown ?_; intro w0 hrg0 hg0 hs0)
          go_frame
          have hb0 : Below w.heap.size w w0 := hbA.grown hg0 hszA (fun q e => by cases e)
          go_loopw [11] (fun _ wr => ∃ (left : Lit → Bool) (cnt : Nat), wr.ranges Try.prog 3 (plainElem Try.prog 3) w.heap.size wA.heap.size (n + m) D left cnt ∧ Below w.heap.size w wr ∧ wA.heap.size ≤ wr.heap.size) (fun _ wr => wr.rangeLeft w.heap.size wA.heap.size)
          case atStart => exact ⟨_, _, hrg0, hb0, by omega⟩
          case round =>
            obtain ⟨left, cnt, hrg, hbr, hszr⟩ := hrel
            go_wp2_with (first
              | (at_next; refine wpList_next_ranges_ii _ rfl _ rfl 3 3 .i64 .i64 lawInt Try.underlying3 Try.underlying3 w.heap.size wA.heap.size (n + m) _ _ _ rfl hrg ?_ ?_))
            · intro _ _
              go_wp2
              go_ret
              exact ⟨rfl, hbr⟩
            · intro x c w1 cnt1 hwx hwc hlx hat hrg1 hlt hg1 hs1 hen
              have hc0 : c = 0 := by
                have h1 := hat (.lit (.int .i64 0))
                rw [HDZ.out x] at h1
                injection h1 with h1
                injection h1 with _ h1
                exact h1.symm
              subst hc0
              have hb1 := grown_below hbr hg1 (by omega) hszA
              clear hat
              go_wp2
              go_roundw
              case rel => exact ⟨_, cnt1, hrg1, hb1, by omega⟩
              case measure => rw [hrg1.left_eq, hrg.left_eq]; exact hlt

end Go.Proofs.Ytcllnoigppkjiaa
