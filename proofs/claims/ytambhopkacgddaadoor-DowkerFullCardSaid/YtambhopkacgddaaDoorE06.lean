import Derived.Test.YtambhopkacgddaaDoorE05
import Derived.Test.YtambhopkacgddaaDoorE02
import Derived.Test.YtambhopkacgddaaDoorE01
import Derived.Deep.LoopGhost
import Derived.Test.YtambhopkacgddaaDoorE03
/- Walk: the half-edges by which the passages of a code leave. -/
namespace Go.Proofs.YtambhopkacgddaaDoor
open Go.RowKit

theorem slot_nat (s : Int) (w : World) : Calls Tryd.prog 76 #[.int .i64 s] w fun e w' => e = .returned (.int .i64 (soN s : Nat)) ∧ w = w' := by
  have e : ((soN s : Nat) : Int) = soI s := by unfold soN soI; split <;> rfl
  rw [e]; exact slot_any s w

set_option maxHeartbeats 3200000 in
set_option maxRecDepth 100000 in
theorem exits_any (A C : Option Addr) (n cs cc : Nat) (code s : List Int) (w : World) (hC : RI w C n code) (hA : RI w A n s) (h64 : n ≤ 64) (hI : inL code) (hv : dvB code = true) :
    Calls Tryd.prog 54 #[.slice C n cc, .slice A n cs] w fun e w' => e = .returned (.slice (some ⟨w.heap.size, 0, none⟩) (2 * n) (2 * n)) ∧ Arr w' w.heap.size 3 (2 * n) (iv (exN code s n)) ∧ Below w.heap.size w w' := by
  have hl := hC.1
  have hpos : 0 < n := by have := (dvB_iff code).1 hv; omega
  obtain ⟨bC, oC, rfl, hbC, hcC⟩ := hC.2 hpos
  obtain ⟨bA, oA, rfl, hbA, hcA⟩ := hA.2 hpos
  have hd := fun i (hi : i < n) => dhalf_eq hv (i := i) (by omega)
  rw [hl] at hd
  have HD := Lib.hid hd
  have HI := Lib.hid hI
  have HCC := Lib.hid hcC
  have HCA := Lib.hid hcA
  clear hd hI hcC hcA hC hA hv hl
  have hn1 : (n : Int) ≤ 64 := by omega
  have hn0 : (0 : Int) ≤ (n : Int) := by omega
  have hmk := fun W => make_one (P := Tryd.prog) Tryd.underlying22 Tryd.infoInt rfl (2 * n) (by omega) (by omega) W
  have hb0 := below_alloc w (.cells (cellsN (2 * n) fun _ => .int .i64 0) 3)
  have hA0 : Arr (w.alloc (.cells (cellsN (2 * n) fun _ => .int .i64 0) 3)) w.heap.size 3 (2 * n) (iv (exN code s 0)) := Arr.new w _ _ _
  obtain ⟨L, hL⟩ : ∃ L, 2 * n = L := ⟨_, rfl⟩
  rw [hL] at hmk hb0 hA0 ⊢
  have hLi : 2 * (n : Int) = (L : Int) := by omega
  have HL := Lib.hid hL
  clear hL
  have hwr : IntKind.i64.wrap (2 * (n : Int)) = (L : Int) := by rw [IntWalk.i64_in _ (by omega), hLi]
  clear hLi
  go_enter Tryd.func54, Tryd.ntmps54
  go_wp2
  generalize w.alloc (.cells (cellsN L fun _ => .int .i64 0) 3) = wA at hb0 hA0
  go_loopw [6, 7, 8, 9, 16] (fun _ _ _ _ i wr => ∃ k : Nat, k ≤ n ∧ i = .int .i64 k ∧ Below w.heap.size w wr ∧ Arr wr w.heap.size 3 L (iv (exN code s k))) (fun _ _ _ _ i _ => n - (intOf i).toNat)
  case atStart => exact ⟨0, by omega, rfl, hb0, hA0⟩
  case round =>
    obtain ⟨k, hk, rfl, hbr, hA⟩ := hrel
    by_cases hlt : k < n
    · obtain ⟨hsz, hdl⟩ := HD.out k hlt
      have hIk := HI.out k
      have hcC : wr.cell? ⟨bC, oC + k, none⟩ = some (.int .i64 (code.getD k 0)) := (hbr.cell (p := ⟨bC, oC + k, none⟩) hbC).trans (HCC.out k hlt)
      have hcA : wr.cell? ⟨bA, oA + k, none⟩ = some (.int .i64 (s.getD k 0)) := (hbr.cell (p := ⟨bA, oA + k, none⟩) hbA).trans (HCA.out k hlt)
      have CE := even_any (code.getD k 0) wr hIk.1 hIk.2
      have hkL : 2 * k < L := by have := HL.out; omega
      have hqL : 2 * dhalf code k + 1 < L := by have := HL.out; omega
      have hstep : exN code s (k + 1) = upd (upd (exN code s k) (ovN code k) (4 * k + soN (s.getD k 0))) (unN code k) (4 * k + 2) := rfl
      unfold ovN unN at hstep
      obtain ⟨x, hx⟩ : ∃ x, code.getD k 0 = x := ⟨_, rfl⟩
      obtain ⟨q, hq⟩ : ∃ q, 2 * dhalf code k + 1 = q := ⟨_, rfl⟩
      obtain ⟨y, hy⟩ : ∃ y, s.getD k 0 = y := ⟨_, rfl⟩
      have hs2 : szI x = (q : Int) + 1 := by rw [← hx, hsz]; omega
      rw [hx] at hcC CE hstep
      rw [hy] at hcA hstep
      rw [hq] at hqL hstep
      rw [hs2] at CE
      have HCE := Lib.hid CE
      have CS := fun W => Lib.hid (slot_nat y W)
      obtain ⟨z, hz⟩ : ∃ z, soN y = z := ⟨_, rfl⟩
      have hz3 : z = 1 ∨ z = 3 := by rw [← hz]; exact soN_cases y
      have hz1 : (z : Int) ≤ 3 := by omega
      have hz0 : (0 : Int) ≤ (z : Int) := Int.natCast_nonneg _
      rw [hz] at CS hstep
      have HST := Lib.hid hstep
      clear CE hsz hdl hx hq hy hs2 hz hstep hz3 hA0 hb0 hIk
      have hk0 : (0 : Int) ≤ (k : Int) := Int.natCast_nonneg _
      have hk1 : (k : Int) < (n : Int) := by omega
      have hq0 : (0 : Int) ≤ (q : Int) := Int.natCast_nonneg _
      have hq1 : (q : Int) < (L : Int) := by omega
      have hL128 : (L : Int) ≤ 128 := by have := HL.out; omega
      have hkL1 : 2 * (k : Int) < (L : Int) := by omega
      have ht : (2 * (k : Int)).toNat = 2 * k := by omega
      have hv1 : Hid (4 * (k : Int) + (z : Int) = ((4 * k + z : Nat) : Int)) := by show _ = _; omega
      have hv2 : Hid (4 * (k : Int) + 2 = ((4 * k + 2 : Nat) : Int)) := by show _ = _; omega
      by_cases hneg : x < 0
      · have hA2 : Arr ((wr.setCell ⟨w.heap.size, q, none⟩ (.int .i64 (4 * (k : Int) + (z : Int)))).setCell ⟨w.heap.size, 2 * k, none⟩ (.int .i64 (4 * (k : Int) + 2))) w.heap.size 3 L (iv (exN code s (k + 1))) := by
          rw [HST.out, if_pos hneg, if_pos hneg, hv1.out, hv2.out]
          exact (hA.seti _ _).seti _ _
        have f1 := hA.frozen q
        have c1 := hA.cell q hqL
        have f2 : (wr.setCell ⟨w.heap.size, q, none⟩ (.int .i64 (4 * (k : Int) + (z : Int)))).frozen? ⟨w.heap.size, 2 * k, none⟩ = false := by rw [hv1.out]; exact (hA.seti q (4 * k + z)).frozen (2 * k)
        have c2 : (wr.setCell ⟨w.heap.size, q, none⟩ (.int .i64 (4 * (k : Int) + (z : Int)))).cell? ⟨w.heap.size, 2 * k, none⟩ = some (.int .i64 (upd (exN code s k) q (4 * k + z) (2 * k) : Nat)) := by rw [hv1.out]; exact (hA.seti q (4 * k + z)).cell (2 * k) hkL
        have HA2 := Lib.hid hA2
        clear hA2 hA hv1 hv2
        go_wp2_with (first
          | (go_at_call 33; ((with_reducible refine HCE.out.mono ?_); rintro e w1 ⟨rfl, rfl⟩))
          | (go_at_call 76; ((with_reducible refine (CS _).out.mono ?_); rintro e w1 ⟨rfl, rfl⟩)))
        go_roundw
        case rel => exact ⟨k + 1, by omega, by go_num, below_set (below_set hbr (Nat.le_refl _) _) (Nat.le_refl _) _, HA2.out⟩
        case measure => simp [intOf]; omega
      · have hA2 : Arr ((wr.setCell ⟨w.heap.size, 2 * k, none⟩ (.int .i64 (4 * (k : Int) + (z : Int)))).setCell ⟨w.heap.size, q, none⟩ (.int .i64 (4 * (k : Int) + 2))) w.heap.size 3 L (iv (exN code s (k + 1))) := by
          rw [HST.out, if_neg hneg, if_neg hneg, hv1.out, hv2.out]
          exact (hA.seti _ _).seti _ _
        have f1 := hA.frozen (2 * k)
        have c1 := hA.cell (2 * k) hkL
        have f2 : (wr.setCell ⟨w.heap.size, 2 * k, none⟩ (.int .i64 (4 * (k : Int) + (z : Int)))).frozen? ⟨w.heap.size, q, none⟩ = false := by rw [hv1.out]; exact (hA.seti (2 * k) (4 * k + z)).frozen q
        have c2 : (wr.setCell ⟨w.heap.size, 2 * k, none⟩ (.int .i64 (4 * (k : Int) + (z : Int)))).cell? ⟨w.heap.size, q, none⟩ = some (.int .i64 (upd (exN code s k) (2 * k) (4 * k + z) q : Nat)) := by rw [hv1.out]; exact (hA.seti (2 * k) (4 * k + z)).cell q hqL
        have HA2 := Lib.hid hA2
        clear hA2 hA hv1 hv2
        go_wp2_with (first
          | (go_at_call 33; ((with_reducible refine HCE.out.mono ?_); rintro e w1 ⟨rfl, rfl⟩))
          | (go_at_call 76; ((with_reducible refine (CS _).out.mono ?_); rintro e w1 ⟨rfl, rfl⟩)))
        go_roundw
        case rel => exact ⟨k + 1, by omega, by go_num, below_set (below_set hbr (Nat.le_refl _) _) (Nat.le_refl _) _, HA2.out⟩
        case measure => simp [intOf]; omega
    · obtain rfl : k = n := by omega
      clear hlt hk
      go_wp2
      go_ret
      exact ⟨rfl, hA, hbr⟩

end Go.Proofs.YtambhopkacgddaaDoor

/- The zero value of the array of 129 bools. (A seat of more than 80 functions.) -/
namespace Go.Proofs.YtambhopkacgddaaDoor
open Go.RowKit

def fal129 : Array Value := cellsN 129 (bv fun _ => false)
theorem fal129_def : fal129 = cellsN 129 (bv fun _ => false) := rfl
theorem fal129_run : ∀ w : World, (zeroValue 65).run Tryd.prog w = .ok (.agg fal129) w := fun _ => by kernel_rfl
theorem fal129_size : fal129.size = 129 := by rw [fal129_def, cellsN_size]
theorem fal129_ne : ¬ fal129 = #[] := fun e => by have := fal129_size; rw [e] at this; cases this
theorem fal129_eq : Tryd.zeroCells65 = fal129 := by kernel_rfl

end Go.Proofs.YtambhopkacgddaaDoor

/- Walk: dowker.Valid. -/
namespace Go.Proofs.YtambhopkacgddaaDoor
open Go.RowKit

/-- Block g tells which absolute values the first k numbers have. -/
def SeenD (code : List Int) (k g : Nat) (w : World) : Prop := ∃ S : Nat → Bool, Arr w g 65 129 (bv S) ∧ ∀ x : Nat, x < 129 → (S x = true ↔ ∃ j, j < k ∧ szI (code.getD j 0) = (x : Int))

theorem okAt_no {code : List Int} {k : Nat} (h : okAt code k = false) (hk : k < code.length) : dvB code = false := by
  cases e : dvB code with
  | false => rfl
  | true => rw [((dvB_iff code).1 e).2.2 k hk] at h; cases h

set_option maxHeartbeats 3200000 in
set_option maxRecDepth 100000 in
theorem dvalid_r (r : Bool) (A : Option Addr) (n c : Nat) (code : List Int) (w : World) (hs : RI w A n code) (hn : n ≤ 9223372036854775807) (hI : inL code) (hr : r = dvB code) :
    Calls Tryd.prog 19 #[.slice A n c] w fun e w' => e = .returned (.bool r) ∧ Below w.heap.size w w' := by
  have hl := hs.1
  by_cases h0 : 1 ≤ n ∧ n ≤ 64
  · obtain ⟨h1, h64⟩ := h0
    obtain ⟨b, off, rfl, hb, hc⟩ := hs.2 (by omega)
    have HR := Lib.hid hr
    have HI := Lib.hid hI
    have HL := Lib.hid hl
    clear hr hI hl hs
    have hzv := fal129_run
    have hzn := fal129_ne
    have hn1 : ¬ (n : Int) < 1 := by omega
    have hn2 : (n : Int) ≤ 64 := by omega
    go_enter Tryd.func19, Tryd.ntmps19
    go_wp2
    try rw [fal129_eq]
    rw [fal129_def]
    have hb0 := below_alloc w (.cells (cellsN 129 (bv fun _ => false)) 65)
    have hA0 : Arr (w.alloc (.cells (cellsN 129 (bv fun _ => false)) 65)) w.heap.size 65 129 (bv fun _ => false) := Arr.new w _ _ _
    have hs0 : SeenD code 0 w.heap.size (w.alloc (.cells (cellsN 129 (bv fun _ => false)) 65)) := ⟨_, hA0, fun x _ => ⟨fun h => Bool.noConfusion h, fun ⟨_, h, _⟩ => absurd h (by omega)⟩⟩
    clear hA0 hzv hzn
    generalize w.alloc (.cells (cellsN 129 (bv fun _ => false)) 65) = wA at hs0 hb0
    go_loopw [6, 7, 18] (fun _ _ i wr => ∃ k : Nat, k ≤ n ∧ i = .int .i64 k ∧ Below w.heap.size w wr ∧ SeenD code k w.heap.size wr ∧ ∀ j, j < k → okAt code j = true) (fun _ _ i _ => n - (intOf i).toNat)
    case atStart => exact ⟨0, by omega, rfl, hb0, hs0, fun j hj => absurd hj (by omega)⟩
    case round =>
      obtain ⟨k, hk, rfl, hbr, hsr, hok⟩ := hrel
      have HOK := Lib.hid hok
      clear hok hs0 hb0
      by_cases hlt : k < n
      · obtain ⟨S, hA, hS⟩ := hsr
        have hcell : wr.cell? ⟨b, off + k, none⟩ = some (.int .i64 (code.getD k 0)) := (hbr.cell (p := ⟨b, off + k, none⟩) hb).trans (hc k hlt)
        have hkL : k < code.length := by rw [HL.out]; exact hlt
        have hIk := HI.out k
        have CE := Lib.hid (even_any (code.getD k 0) wr hIk.1 hIk.2)
        have hok1 := okAt_iff code k
        have hno := fun h => (HR.out.trans (okAt_no (code := code) (k := k) h hkL) : r = false)
        rw [HL.out] at hok1
        obtain ⟨x, hx⟩ : ∃ x, code.getD k 0 = x := ⟨_, rfl⟩
        obtain ⟨v, hv⟩ : ∃ v, szI x = v := ⟨_, rfl⟩
        have HSx : szI (code.getD k 0) = v := by rw [hx, hv]
        have HSX := Lib.hid HSx
        rw [HSx] at hok1
        rw [hx, hv] at CE
        rw [hx] at hcell hIk
        have HNO := Lib.hid hno
        have HOK1 := Lib.hid hok1
        have HS := Lib.hid hS
        have HA := Lib.hid hA
        clear hx hv HSx hno hok1 hS hA hkL
        have hk0 : (0 : Int) ≤ (k : Int) := Int.natCast_nonneg _
        have hk1 : (k : Int) < (n : Int) := by omega
        by_cases c1 : v < 2
        · have e : r = false := HNO.out (by
            cases q : okAt code k with
            | false => rfl
            | true => have := (HOK1.out.1 q).1; omega)
          have HE := Lib.hid e
          clear e
          go_wp2_with ((with_reducible refine CE.out.mono ?_); rintro e w1 ⟨rfl, rfl⟩)
          go_ret
          exact ⟨ret_bool HE.out.symm, hbr⟩
        · by_cases c2 : 2 * (n : Int) < v
          · have e : r = false := HNO.out (by
              cases q : okAt code k with
              | false => rfl
              | true => have := (HOK1.out.1 q).2.1; omega)
            have HE := Lib.hid e
            clear e
            go_wp2_with ((with_reducible refine CE.out.mono ?_); rintro e w1 ⟨rfl, rfl⟩)
            go_ret
            exact ⟨ret_bool HE.out.symm, hbr⟩
          · obtain ⟨u, rfl⟩ : ∃ u : Nat, v = u := ⟨v.toNat, by omega⟩
            have hu0 : (0 : Int) ≤ (u : Int) := Int.natCast_nonneg _
            have hu129 : u < 129 := by omega
            have hu1 : (u : Int) < 129 := by omega
            by_cases c3 : (u : Int) % 2 = 0
            · cases hSu : S u with
              | true =>
                obtain ⟨j, hj, ej⟩ := (HS.out u hu129).1 hSu
                have e : r = false := HNO.out (by
                  cases q : okAt code k with
                  | false => rfl
                  | true => exact absurd ej ((HOK1.out.1 q).2.2.2 j hj))
                have HE := Lib.hid e
                have hcS : wr.cell? ⟨w.heap.size, u, none⟩ = some (.bool true) := by rw [HA.out.cell u hu129]; show some (Value.bool (S u)) = _; rw [hSu]
                clear e hSu ej
                go_wp2_with ((with_reducible refine CE.out.mono ?_); rintro e w1 ⟨rfl, rfl⟩)
                go_ret
                exact ⟨ret_bool HE.out.symm, hbr⟩
              | false =>
                have hcS : wr.cell? ⟨w.heap.size, u, none⟩ = some (.bool false) := by rw [HA.out.cell u hu129]; show some (Value.bool (S u)) = _; rw [hSu]
                have hfS := HA.out.frozen u
                have hokk : okAt code k = true := HOK1.out.2 ⟨by omega, by omega, by omega, fun j hj ej => by
                  rw [(HS.out u hu129).2 ⟨j, hj, ej⟩] at hSu; cases hSu⟩
                have hs2 : SeenD code (k + 1) w.heap.size (wr.setCell ⟨w.heap.size, u, none⟩ (.bool true)) := by
                  refine ⟨_, HA.out.setb u true, fun x hx => ?_⟩
                  by_cases e : x = u
                  · subst e; simp only [if_pos]
                    exact ⟨fun _ => ⟨k, by omega, HSX.out⟩, fun _ => trivial⟩
                  · simp only [if_neg e]
                    refine (HS.out x hx).trans ⟨fun ⟨j, h1, h2⟩ => ⟨j, by omega, h2⟩, fun ⟨j, h1, h2⟩ => ⟨j, ?_, h2⟩⟩
                    by_cases ej : j = k
                    · subst ej; rw [HSX.out] at h2; omega
                    · omega
                have hall : ∀ j, j < k + 1 → okAt code j = true := fun j hj => by
                  by_cases e : j = k
                  · subst e; exact hokk
                  · exact HOK.out j (by omega)
                have HALL := Lib.hid hall
                have HS2 := Lib.hid hs2
                clear hall hs2 hokk hSu
                go_wp2_with ((with_reducible refine CE.out.mono ?_); rintro e w1 ⟨rfl, rfl⟩)
                go_roundw
                case rel => exact ⟨k + 1, by omega, by go_num, below_set hbr (Nat.le_refl _) _, HS2.out, HALL.out⟩
                case measure => simp [intOf]; omega
            · have e : r = false := HNO.out (by
                cases q : okAt code k with
                | false => rfl
                | true => exact absurd (HOK1.out.1 q).2.2.1 c3)
              have HE := Lib.hid e
              have c3' : (u : Int) % 2 = 1 := by omega
              clear e c3
              go_wp2_with ((with_reducible refine CE.out.mono ?_); rintro e w1 ⟨rfl, rfl⟩)
              go_ret
              exact ⟨ret_bool HE.out.symm, hbr⟩
      · obtain rfl : k = n := by omega
        have e : r = true := by
          rw [HR.out]
          exact (dvB_iff _).2 ⟨by rw [HL.out]; exact h1, by rw [HL.out]; exact h64, fun i hi => HOK.out i (by rw [← HL.out]; exact hi)⟩
        have HE := Lib.hid e
        clear e hlt hk
        go_wp2
        go_ret
        exact ⟨ret_bool HE.out.symm, hbr⟩
  · have e : r = false := by
      rw [hr]
      cases q : dvB code with
      | false => rfl
      | true => have := (dvB_iff _).1 q; omega
    have HE := Lib.hid e
    clear e hr hI hs hl
    by_cases h1 : n < 1
    · have h1' : (n : Int) < 1 := by omega
      clear h0
      go_enter Tryd.func19, Tryd.ntmps19
      go_wp2
      go_ret
      exact ⟨ret_bool HE.out.symm, Below.refl _ _⟩
    · have h1' : ¬ (n : Int) < 1 := by omega
      have h2' : 64 < (n : Int) := by omega
      clear h0
      go_enter Tryd.func19, Tryd.ntmps19
      go_wp2
      go_ret
      exact ⟨ret_bool HE.out.symm, Below.refl _ _⟩
theorem dvalid_any (A : Option Addr) (n c : Nat) (code : List Int) (w : World) (hs : RI w A n code) (hn : n ≤ 9223372036854775807) (hI : inL code) :
    Calls Tryd.prog 19 #[.slice A n c] w fun e w' => e = .returned (.bool (dvB code)) ∧ Below w.heap.size w w' := dvalid_r _ A n c code w hs hn hI rfl

end Go.Proofs.YtambhopkacgddaaDoor

/- Words for memory: a store into one row leaves the others as they were. -/
namespace Go.Proofs.YtambhopkacgddaaDoor
open Go.RowKit

theorem OI.set_ {w : World} {B g n cap : Nat} {xs : List Int} (h : OI w B (.slice (some ⟨g, 0, none⟩) n cap) xs) (hl : xs.length = n) (j : Nat) (z : Int) :
    OI (w.setCell ⟨g, j, none⟩ (.int .i64 z)) B (.slice (some ⟨g, 0, none⟩) n cap) (xs.set j z) ∧ w.grownBy (w.setCell ⟨g, j, none⟩ (.int .i64 z)) (some g) := by
  subst hl
  have := World.ownsRow.stored h j (.int .i64 z)
  refine ⟨?_, this.2⟩
  unfold OI
  simpa [ints, List.map_set] using this.1

theorem OI.apart_lt {w : World} {B : Nat} {v : Value} {xs : List Int} (h : OI w B v xs) (row : Option Nat) (hr : ∀ g, row = some g → g < B) : v.ownBlock = none ∨ v.ownBlock ≠ row := by
  cases hv : v.ownBlock with
  | none => exact .inl rfl
  | some g =>
    refine .inr fun e => ?_
    have h1 := (World.ownsRow.lt h g hv).1
    have h2 := hr g e.symm
    omega

theorem ownRow.apart_lt {w : World} {B : Nat} {e : TypeId} {v : Value} {vs : List Value} (h : ownRow w B e v vs) (row : Option Nat) (hr : ∀ g, row = some g → g < B) : v.ownBlock = none ∨ v.ownBlock ≠ row := by
  cases hv : v.ownBlock with
  | none => exact .inl rfl
  | some g =>
    refine .inr fun e => ?_
    have h1 := (World.ownsRow.lt h g hv).1
    have h2 := hr g e.symm
    omega
theorem OO.grown_lt {w w' : World} {B : Nat} {v : Value} {xss : List (List Int)} (h : OO w B v xss) {row : Option Nat} (hg : w.grownBy w' row) (hr : ∀ g, row = some g → g < B) : OO w' B v xss := by
  obtain ⟨vs, h1, h2, h3⟩ := h
  exact ⟨vs, World.ownsRow.kept h1 hg (h1.apart_lt row hr), h2, fun i hi => (h3 i hi).grown hg ((h3 i hi).apart_lt row hr)⟩
theorem grown_set {w wr : World} {g : Nat} (h : w.grownBy wr (some g)) (j : Nat) (u : Value) : w.grownBy (wr.setCell ⟨g, j, none⟩ u) (some g) :=
  h.trans ⟨rfl, rfl, rfl, by simp [World.setCell], fun k _ hne => Below.heap_setCell wr ⟨g, j, none⟩ u k (by rintro rfl; exact hne rfl)⟩
theorem grown_below {W w w' : World} {B : Nat} (hb : Below B W w) {g : Nat} (hg : w.grownBy w' (some g)) (hB : B ≤ w.heap.size) (hgB : B ≤ g) : Below B W w' := hb.grown hg hB (fun k e => by injection e with e; omega)
/-- A row of a slice of slices of the call's own. -/
theorem OO.el {w : World} {B n c : Nat} {A : Option Addr} {xss : List (List Int)} (h : OO w B (.slice A n c) xss) (k : Nat) (hk : k < xss.length) :
    n = xss.length ∧ ∃ gA A' n' c', A = some ⟨gA, 0, none⟩ ∧ B ≤ gA ∧ gA < w.heap.size ∧ w.cell? ⟨gA, k, none⟩ = some (.slice A' n' c') ∧ OI w B (.slice A' n' c') (xss.getD k []) := by
  obtain ⟨vs, h1, h2, h3⟩ := h
  have hk' : k < vs.length := by omega
  have h8 := h3 k hk
  have h9 : vs.getD k undef = vs[k] := by simp [List.getD, hk']
  rw [h9] at h8
  have hsl : ∃ A' n' c', vs[k] = .slice A' n' c' := by
    rcases h8.form with ⟨e, _⟩ | ⟨g', cap', e, _⟩
    · exact ⟨_, _, _, e⟩
    · exact ⟨_, _, _, e⟩
  obtain ⟨A', n', c', e⟩ := hsl
  rcases h1.2 with ⟨h4, h5⟩ | ⟨g, cap, cur, h4, hB, hg, _⟩
  · omega
  · injection h4 with e1 e2 e3
    have hlt : g < w.heap.size := by
      rcases Nat.lt_or_ge g w.heap.size with hlt | hge
      · exact hlt
      · rw [Array.getElem?_eq_none hge] at hg; cases hg
    subst e1; subst e2; subst e3
    have h6 : w.cell? ⟨g, k, none⟩ = vs[k]? := World.ownsRow.cellAt h1 k (by omega)
    rw [e] at h8
    exact ⟨h2, g, A', n', c', rfl, hB, hlt, by rw [h6, List.getElem?_eq_getElem hk', e], h8⟩

end Go.Proofs.YtambhopkacgddaaDoor

/- Walk: the mates of a code's diagram. -/
namespace Go.Proofs.YtambhopkacgddaaDoor
open Go.RowKit

theorem opp_nat (x : Nat) (w : World) (hx : x ≤ 1000000) : Calls Tryd.prog 55 #[.int .i64 (x : Nat)] w fun e w' => e = .returned (.int .i64 (trn x 2 : Nat)) ∧ w = w' := by
  rw [← turnI_opp]; exact opposite_any _ w (by omega) (by omega)
theorem grownBy_refl (w : World) (row : Option Nat) : w.grownBy w row := ⟨rfl, rfl, rfl, Nat.le_refl _, fun _ _ _ => rfl⟩
theorem grownBy_trans {w w1 w2 : World} {g : Nat} (h : Below w.heap.size w w1) (_ : g < w.heap.size) (k : w1.grownBy w2 (some g)) : w.grownBy w2 (some g) :=
  ⟨k.os.trans h.os, k.tape.trans h.tape, k.output.trans h.output, Nat.le_trans h.size k.size, fun b hb hne => (k.block b (Nat.lt_of_lt_of_le hb h.size) hne).trans (h.block b hb)⟩
theorem grown_drew {w w' : World} {row : Option Nat} (h : w.grownBy w' row) : w.grownBy w'.drew row := ⟨h.os, h.tape, h.output, h.size, h.block⟩
def JoinPost (w : World) (gM nm : Nat) (M : Nat → Nat) (e : Ending) (w' : World) : Prop := e = .returned (.tuple #[]) ∧ w.grownBy w' (some gM) ∧ Arr w' gM 3 nm (iv M)

set_option maxHeartbeats 3200000 in
set_option maxRecDepth 100000 in
theorem join_any (A C : Option Addr) (n cs cc cm gM : Nat) (lp : Int) (code s : List Int) (M : Nat → Nat) (w : World) (hC : RI w C n code) (hA : RI w A n s) (h64 : n ≤ 64) (hI : inL code) (hv : dvB code = true) (hM : Arr w gM 3 (4 * n) (iv M)) :
    Calls Tryd.prog 36 #[dval A n cs (some ⟨gM, 0, none⟩) (4 * n) cm lp, .slice C n cc] w (JoinPost w gM (4 * n) (jnN (exN code s n) (2 * n) (2 * n) M)) := by
  have hpos : 0 < n := by have := (dvB_iff code).1 hv; have := hC.1; omega
  have hgM := hM.lt
  have hd := DB.new w A n cs (some ⟨gM, 0, none⟩) (4 * n) cm lp
  obtain ⟨d0, d1, d2, dlt⟩ := hd
  have CE := Lib.hid (exits_any A C n cs cc code s (w.alloc (dbox A n cs (some ⟨gM, 0, none⟩) (4 * n) cm lp)) (hC.alloc _) (hA.alloc _) h64 hI hv)
  have HE : Hid (∀ x, exN code s n x < 4 * n) := Lib.hid (fun x => by have := exN_lt code s n x; omega)
  obtain ⟨E, hE⟩ : ∃ E, exN code s n = E := ⟨_, rfl⟩
  rw [hE] at CE HE ⊢
  obtain ⟨L, hL⟩ : ∃ L, 2 * n = L := ⟨_, rfl⟩
  obtain ⟨nm, hnm⟩ : ∃ nm, 4 * n = nm := ⟨_, rfl⟩
  rw [hL] at CE ⊢
  rw [hnm] at HE hM d0 d1 d2 dlt CE ⊢
  have hL1 : 0 < L := by omega
  have hL2 : L ≤ 128 := by omega
  have hnm1 : nm ≤ 256 := by omega
  have HN4 : Hid (nm % 4 = 0) := Lib.hid (by omega)
  clear hE hL hnm hC hA hI hv
  have hb0 := below_alloc w (dbox A n cs (some ⟨gM, 0, none⟩) nm cm lp)
  have hM0 := hM.keep hb0
  have hL0 : (0 : Int) < (L : Int) := by omega
  have hL3 : (L : Int) ≤ 128 := by omega
  have hnm0 : (nm : Int) ≤ 256 := by omega
  go_enter Tryd.func36, Tryd.ntmps36
  go_wp2_with ((with_reducible refine CE.out.mono ?_); rintro e w1 ⟨rfl, hAE, hb1⟩; have e0 := (hb1.cell (p := ⟨w.heap.size, 0, none⟩) dlt).trans d0; have e1 := (hb1.cell (p := ⟨w.heap.size, 1, none⟩) dlt).trans d1; have e2 := (hb1.cell (p := ⟨w.heap.size, 2, none⟩) dlt).trans d2)
  have hM1 := hM0.keep hb1
  have hbw := below_step hb0 hb1
  have hwlt : w.heap.size < w1.heap.size := Nat.lt_of_lt_of_le dlt hb1.size
  have hsz1 : (w.alloc (dbox A n cs (some ⟨gM, 0, none⟩) nm cm lp)).heap.size = w.heap.size + 1 := by simp
  rw [hsz1] at hAE
  obtain ⟨gE, hgE⟩ : ∃ gE, w.heap.size + 1 = gE := ⟨_, rfl⟩
  have hgE2 : w.heap.size < gE := by omega
  rw [hgE] at hAE ⊢
  clear hsz1
  generalize hMM : jnN E L 0 M = M0
  have hMr : Arr w1 gM 3 nm (iv (jnN E L 0 M)) := hM1
  have hne1 : gE ≠ gM := by omega
  have hne2 : w.heap.size ≠ gM := by omega
  have HGE := Lib.hid hgE
  clear hgE hMM M0 hM1 hM0 d0 d1 d2 hb1 hb0 hM CE
  go_loopw [5, 6, 7, 14] (fun _ _ _ i wr => ∃ k : Nat, k ≤ L ∧ i = .int .i64 k ∧ w1.grownBy wr (some gM) ∧ Arr wr gM 3 nm (iv (jnN E L k M))) (fun _ _ _ i _ => L - (intOf i).toNat)
  case atStart => exact ⟨0, by omega, rfl, grownBy_refl _ _, hMr⟩
  case round =>
    obtain ⟨k, hk, rfl, hgr, hMk⟩ := hrel
    have hAr := hAE.grown hgr (by simp; omega)
    have x0 := (hgr.cell_far ⟨w.heap.size, 0, none⟩ hwlt (by simp; omega)).trans e0
    have x1 := (hgr.cell_far ⟨w.heap.size, 1, none⟩ hwlt (by simp; omega)).trans e1
    have x2 := (hgr.cell_far ⟨w.heap.size, 2, none⟩ hwlt (by simp; omega)).trans e2
    by_cases hlt : k < L
    · obtain ⟨q, hq⟩ : ∃ q, (k + 1) % L = q := ⟨_, rfl⟩
      have hqL : q < L := by rw [← hq]; exact Nat.mod_lt _ hL1
      have hqi : ((k : Int) + 1) % (L : Int) = (q : Int) := by rw [← hq]; simp
      have cE1 := hAr.cell k hlt
      have cE2 := hAr.cell q hqL
      have hstep : jnN E L (k + 1) M = upd (upd (jnN E L k M) (E k) (trn (E ((k + 1) % L)) 2)) (trn (E ((k + 1) % L)) 2) (E k) := rfl
      rw [hq] at hstep
      have ho1 := HE.out k
      have ho2 := HE.out q
      have ho3 : trn (E q) 2 < nm := by have := HE.out q; have := HN4.out; unfold trn; omega
      have CO := fun W => Lib.hid (opp_nat (E q) W (by omega))
      have cE1' : wr.cell? ⟨gE, k, none⟩ = some (.int .i64 (E k : Nat)) := cE1
      have cE2' : wr.cell? ⟨gE, q, none⟩ = some (.int .i64 (E q : Nat)) := cE2
      clear cE1 cE2 hq
      obtain ⟨o, hoo⟩ : ∃ o, E k = o := ⟨_, rfl⟩
      obtain ⟨i', hii⟩ : ∃ i', trn (E q) 2 = i' := ⟨_, rfl⟩
      obtain ⟨o2, ho22⟩ : ∃ o2, E q = o2 := ⟨_, rfl⟩
      rw [hoo] at cE1' ho1 hstep
      rw [hii] at ho3 hstep CO
      rw [ho22] at cE2' ho2 CO
      have hA2 : Arr ((wr.setCell ⟨gM, o, none⟩ (.int .i64 (i' : Nat))).setCell ⟨gM, i', none⟩ (.int .i64 (o : Nat))) gM 3 nm (iv (jnN E L (k + 1) M)) := by
        rw [hstep]; exact (hMk.seti _ _).seti _ _
      have f1 := hMk.frozen o
      have c1 := hMk.cell o ho1
      have f2 := (hMk.seti o i').frozen i'
      have c2 : (wr.setCell ⟨gM, o, none⟩ (.int .i64 (i' : Nat))).cell? ⟨gM, i', none⟩ = some (.int .i64 (upd (jnN E L k M) o i' i' : Nat)) := (hMk.seti o i').cell i' ho3
      have hg2 : w1.grownBy ((wr.setCell ⟨gM, o, none⟩ (.int .i64 (i' : Nat))).setCell ⟨gM, i', none⟩ (.int .i64 (o : Nat))) (some gM) := grown_set (grown_set hgr _ _) _ _
      have HA2 := Lib.hid hA2
      have HG2 := Lib.hid hg2
      clear hA2 hg2 hstep hoo hii ho22 hAr hMr hAE hgr e0 e1 e2
      have hk0 : (0 : Int) ≤ (k : Int) := Int.natCast_nonneg _
      have hk1 : (k : Int) < (L : Int) := by omega
      have hq0 : (0 : Int) ≤ (q : Int) := Int.natCast_nonneg _
      have hq1 : (q : Int) < (L : Int) := by omega
      have hL4 : ¬ (L : Int) = 0 := by omega
      have ho10 : (0 : Int) ≤ (o : Int) := Int.natCast_nonneg _
      have ho11 : (o : Int) < (nm : Int) := by omega
      have hi0 : (0 : Int) ≤ (i' : Int) := Int.natCast_nonneg _
      have hi1 : (i' : Int) < (nm : Int) := by omega
      go_wp2_with (go_at_call 55; ((with_reducible refine (CO _).out.mono ?_); rintro e w2 ⟨rfl, rfl⟩))
      go_region
      all_goals
        go_wp2
        go_roundw
        case rel => exact ⟨k + 1, by omega, by go_num, grown_drew HG2.out, HA2.out.drew⟩
        case measure => simp [intOf]; omega
    · obtain rfl : k = L := by omega
      clear hlt hk
      go_wp2
      go_end0
      exact ⟨rfl, grownBy_trans hbw (by omega) hgr, hMk⟩

end Go.Proofs.YtambhopkacgddaaDoor

/- Walk: the search for the signs of a code. -/
namespace Go.Proofs.YtambhopkacgddaaDoor
open Go.RowKit

/-- The first signs that begin with p and make the diagram valid. -/
def srch (code : List Int) : Nat → List Int → Option (List Int)
  | 0, p => if validB p (mkM code p) 0 = true then some p else none
  | k + 1, p => match srch code k (p ++ [1]) with
    | some l => some l
    | none => srch code k (p ++ [-1])

theorem ri_arr {w : World} {g n : Nat} {S : Nat → Int} (h : Arr w g 3 n (zv S)) : RI w (some ⟨g, 0, none⟩) n (lstI n S) :=
  ⟨lstI_length _ _, fun _ => ⟨g, 0, rfl, h.lt, fun j hj => by rw [lstI_get hj, Nat.zero_add]; exact h.cell j hj⟩⟩
theorem rn_arr {w : World} {g n : Nat} {M : Nat → Nat} (h : Arr w g 3 n (iv M)) : RI w (some ⟨g, 0, none⟩) n (lstN n M) :=
  ⟨lstN_length _ _, fun _ => ⟨g, 0, rfl, h.lt, fun j hj => by rw [lstN_get hj, Nat.zero_add]; exact h.cell j hj⟩⟩

/-- The variables of the search. -/
structure Scn (gc gn gd gf gS gM n cs cm cc : Nat) (C : Option Addr) (w0 : World) (code : List Int) (w : World) (S : Nat → Int) (M : Nat → Nat) : Prop where
  hb : Below w0.heap.size w0 w
  hC : RI w0 C n code
  cn : w.cell? ⟨gn, 0, none⟩ = some (.int .i64 n)
  cd : DB w gd (some ⟨gS, 0, none⟩) n cs (some ⟨gM, 0, none⟩) (4 * n) cm 0
  cc : w.cell? ⟨gc, 0, none⟩ = some (.slice C n cc)
  cf : w.cell? ⟨gf, 0, none⟩ = some (.func (.func 35) #[] #[.pointer (some ⟨gn, 0, none⟩), .pointer (some ⟨gd, 0, none⟩), .pointer (some ⟨gc, 0, none⟩), .pointer (some ⟨gf, 0, none⟩)])
  aS : Arr w gS 3 n (zv S)
  aM : Arr w gM 3 (4 * n) (iv M)
  lt : gc < w.heap.size ∧ gn < w.heap.size ∧ gf < w.heap.size
  old : w0.heap.size ≤ gS ∧ w0.heap.size ≤ gM
  ne : gS ≠ gM ∧ gc ≠ gS ∧ gc ≠ gM ∧ gn ≠ gS ∧ gn ≠ gM ∧ gd ≠ gS ∧ gd ≠ gM ∧ gf ≠ gS ∧ gf ≠ gM

section
variable {gc gn gd gf gS gM n cs cm cc : Nat} {C : Option Addr} {w0 : World} {code : List Int} {w : World} {S : Nat → Int} {M : Nat → Nat}
theorem Scn.keep {w' : World} (h : Scn gc gn gd gf gS gM n cs cm cc C w0 code w S M) (hb : Below w.heap.size w w') : Scn gc gn gd gf gS gM n cs cm cc C w0 code w' S M :=
  ⟨h.hb.trans (hb.mono h.hb.size), h.hC, (hb.cell (p := ⟨gn, 0, none⟩) h.lt.2.1).trans h.cn, h.cd.keep hb, (hb.cell (p := ⟨gc, 0, none⟩) h.lt.1).trans h.cc, (hb.cell (p := ⟨gf, 0, none⟩) h.lt.2.2).trans h.cf, h.aS.keep hb, h.aM.keep hb,
    ⟨Nat.lt_of_lt_of_le h.lt.1 hb.size, Nat.lt_of_lt_of_le h.lt.2.1 hb.size, Nat.lt_of_lt_of_le h.lt.2.2 hb.size⟩, h.old, h.ne⟩
theorem db_grown {w w' : World} {g k : Nat} {A : Option Addr} {ns cs : Nat} {B : Option Addr} {nm cm : Nat} {lp : Int} (h : DB w g A ns cs B nm cm lp) (hg : w.grownBy w' (some k)) (hne : g ≠ k) : DB w' g A ns cs B nm cm lp :=
  ⟨(hg.cell_far ⟨g, 0, none⟩ h.2.2.2 (by simp; omega)).trans h.1, (hg.cell_far ⟨g, 1, none⟩ h.2.2.2 (by simp; omega)).trans h.2.1, (hg.cell_far ⟨g, 2, none⟩ h.2.2.2 (by simp; omega)).trans h.2.2.1, Nat.lt_of_lt_of_le h.2.2.2 hg.size⟩
theorem Scn.joined {w' : World} {M' : Nat → Nat} (h : Scn gc gn gd gf gS gM n cs cm cc C w0 code w S M) (hg : w.grownBy w' (some gM)) (hM : Arr w' gM 3 (4 * n) (iv M')) : Scn gc gn gd gf gS gM n cs cm cc C w0 code w' S M' := by
  obtain ⟨n1, n2, n3, n4, n5, n6, n7, n8, n9⟩ := h.ne
  exact ⟨h.hb.grown hg h.hb.size (fun k e => by injection e with e; have := h.old.2; omega), h.hC, (hg.cell_far ⟨gn, 0, none⟩ h.lt.2.1 (by simp; omega)).trans h.cn, db_grown h.cd hg n7, (hg.cell_far ⟨gc, 0, none⟩ h.lt.1 (by simp; omega)).trans h.cc,
    (hg.cell_far ⟨gf, 0, none⟩ h.lt.2.2 (by simp; omega)).trans h.cf, h.aS.grown hg (by simp; omega), hM,
    ⟨Nat.lt_of_lt_of_le h.lt.1 hg.size, Nat.lt_of_lt_of_le h.lt.2.1 hg.size, Nat.lt_of_lt_of_le h.lt.2.2 hg.size⟩, h.old, h.ne⟩
theorem Scn.sign (h : Scn gc gn gd gf gS gM n cs cm cc C w0 code w S M) (i : Nat) (v : Int) : Scn gc gn gd gf gS gM n cs cm cc C w0 code (w.setCell ⟨gS, i, none⟩ (.int .i64 v)) (fun j => if j = i then v else S j) M := by
  obtain ⟨n1, n2, n3, n4, n5, n6, n7, n8, n9⟩ := h.ne
  have hg : w.grownBy (w.setCell ⟨gS, i, none⟩ (.int .i64 v)) (some gS) := grown_set (grownBy_refl w _) i _
  exact ⟨h.hb.setCell (p := ⟨gS, i, none⟩) h.old.1 _, h.hC, (hg.cell_far ⟨gn, 0, none⟩ h.lt.2.1 (by simp; omega)).trans h.cn, db_grown h.cd hg n6, (hg.cell_far ⟨gc, 0, none⟩ h.lt.1 (by simp; omega)).trans h.cc,
    (hg.cell_far ⟨gf, 0, none⟩ h.lt.2.2 (by simp; omega)).trans h.cf, h.aS.setz i v, h.aM.far (p := ⟨gS, i, none⟩) (by show gM ≠ gS; omega) _,
    ⟨Nat.lt_of_lt_of_le h.lt.1 hg.size, Nat.lt_of_lt_of_le h.lt.2.1 hg.size, Nat.lt_of_lt_of_le h.lt.2.2 hg.size⟩, h.old, h.ne⟩
end

def DrPost (gc gn gd gf gS gM n cs cm cc : Nat) (C : Option Addr) (w0 : World) (code : List Int) (i : Nat) (S : Nat → Int) (b : Bool) (r : Option (List Int)) (e : Ending) (w' : World) : Prop :=
  ∃ S' M', e = .returned (.bool b) ∧ Scn gc gn gd gf gS gM n cs cm cc C w0 code w' S' M' ∧ (∀ x, M' x < 1000000) ∧ (∀ j, j < i → S' j = S j) ∧ ∀ l, r = some l → lstI n S' = l ∧ lstN (4 * n) M' = mkM code l

theorem enters_drawn : ∀ (args : Array Value) (W : World), (callFunc 35 args).run Tryd.prog W = .ok (.enter 35 args) W := fun _ _ => by kernel_rfl

end Go.Proofs.YtambhopkacgddaaDoor

/- Walk: Strands. -/
namespace Go.Proofs.YtambhopkacgddaaDoor
open Go.RowKit

theorem next59 (A B : Option Addr) (ns cs nm cm gd : Nat) (lp : Int) (mate : List Int) (m : Nat → Nat) (w : World) (hd : DB w gd A ns cs B nm cm lp) (hm : RI w B nm mate) (hmm : Mates mate nm m) (hnm : nm ≤ 256) :
    Next w 45 gd (fs m) nm := fun W x hW hx => by
  have hb0 := hd.keep hW
  obtain ⟨d0, d1, d2, dlt⟩ := hb0
  have C := Lib.hid (nextstrand_nat A B ns cs nm cm lp mate m x W (hm.keep hW) hx hmm hnm _ rfl)
  clear hd hm hmm hW
  go_enter Tryd.func45, Tryd.ntmps45
  go_wp2_with (go_at_call 46; ((with_reducible refine C.out.mono ?_); rintro e w1 ⟨rfl, hb1⟩))
  go_ret
  exact ⟨rfl, hb1⟩
theorem asks58 (A B : Option Addr) (ns cs nm cm gd : Nat) (lp : Int) (signs : List Int) (w : World) (hd : DB w gd A ns cs B nm cm lp) (hs : RI w A ns signs) (hnm : nm = 4 * ns) (hns : ns ≤ 64) :
    Asks w 42 #[.pointer (some ⟨gd, 0, none⟩)] (outB signs) nm := fun W x hW hx => by
  show Calls Tryd.prog 42 #[.int .i64 (x : Nat), .pointer (some ⟨gd, 0, none⟩)] W _
  have hb0 := hd.keep hW
  obtain ⟨d0, d1, d2, dlt⟩ := hb0
  have C := Lib.hid (outgoing_any A B ns cs nm cm lp signs x W (hs.keep hW) (by omega) (by omega))
  clear hd hs hW hnm
  go_enter Tryd.func42, Tryd.ntmps42
  go_wp2_with (go_at_call 43; ((with_reducible refine C.out.mono ?_); rintro e w1 ⟨rfl, hb1⟩))
  go_ret
  exact ⟨rfl, hb1⟩


set_option maxHeartbeats 1600000 in
theorem strands_any (A B : Option Addr) (ns cs nm cm : Nat) (lp : Int) (signs mate : List Int) (w : World) (h : DV w A ns B nm signs mate) :
    Calls Tryd.prog 25 #[dval A ns cs B nm cm lp] w (CycsPost w (strandsM signs mate lp)) := by
  have hd := DB.new w A ns cs B nm cm lp
  obtain ⟨d0, d1, d2, dlt⟩ := hd
  have hb0 := below_alloc w (dbox A ns cs B nm cm lp)
  have hls := h.hs.1
  have hlm := h.hm.1
  cases hv : validB signs mate lp with
  | false =>
    have e : strandsM signs mate lp = [] := by simp [strandsM, hv]
    rw [e]
    have CV := Lib.hid ((h.keep hb0).valid cs cm lp false hv)
    clear e hv hls hlm
    go_enter Tryd.func25, Tryd.ntmps25
    go_wp2_with (go_at_call 22; ((with_reducible refine CV.out.mono ?_); rintro e w1 ⟨rfl, hb1⟩))
    go_ret
    exact ⟨_, rfl, OO.nil _ _, below_step hb0 hb1⟩
  | true =>
    have e : strandsM signs mate lp = cycL (fs (matesOf mate)) nm (outB signs) nm := by simp [strandsM, hv, hlm]
    rw [e]
    have CV := Lib.hid ((h.keep hb0).valid cs cm lp true hv)
    obtain ⟨v1, v2, v3, v4⟩ := validB_out hv
    rw [hls, hlm] at v1
    obtain ⟨l1, l2, l3, l4⟩ := limB_out v1
    have HM := Lib.hid (matesOf_mates v3 hlm)
    have HI := Lib.hid (matesOf_invol v3 hlm)
    have HL := Lib.hid l2
    have HD := Lib.hid (DB.new w A ns cs B nm cm lp)
    have CCf : ∀ w1 : World, Below (w.alloc (dbox A ns cs B nm cm lp)).heap.size (w.alloc (dbox A ns cs B nm cm lp)) w1 →
        Hid (Calls Tryd.prog 44 #[.int .i64 (nm : Nat), .func (.func 42) #[] #[.pointer (some ⟨w.heap.size, 0, none⟩)], .func (.func 45) #[] #[.pointer (some ⟨w.heap.size, 0, none⟩)]] w1 (CycsPost w1 (cycL (fs (matesOf mate)) nm (outB signs) nm))) := fun w1 hb1 =>
      cycles_any 45 42 w.heap.size nm #[.pointer (some ⟨w.heap.size, 0, none⟩)] (fs (matesOf mate)) (outB signs) w1 enters59 enters58
        (next59 A B ns cs nm cm w.heap.size lp mate (matesOf mate) w1 (HD.out.keep hb1) (h.hm.keep (below_step hb0 hb1)) HM.out (by have := HL.out; omega)) (asks58 A B ns cs nm cm w.heap.size lp signs w1 (HD.out.keep hb1) (h.hs.keep (below_step hb0 hb1)) HL.out l1) (by have := HI.out; rw [HL.out] at this ⊢; exact this.perm 2) (by have := HL.out; omega)
    clear e hv hls hlm v1 v2 v3 v4 l2
    go_enter Tryd.func25, Tryd.ntmps25
    have hmf : ∀ (fn : Fn) (first cap : Array Value) (w : World), (Instr.makeFunc fn first cap).run Tryd.prog w = .ok (.func fn first cap) w := fun _ _ _ _ => rfl
    go_wp2_with (first
      | (go_at_call 22; ((with_reducible refine CV.out.mono ?_); rintro e w1 ⟨rfl, hb1⟩; have d0' := (hb1.cell (p := ⟨w.heap.size, 0, none⟩) dlt).trans d0; have d1' := (hb1.cell (p := ⟨w.heap.size, 1, none⟩) dlt).trans d1; have d2' := (hb1.cell (p := ⟨w.heap.size, 2, none⟩) dlt).trans d2))
      | (go_at_call 44; ((with_reducible refine (CCf _ hb1).out.mono ?_); rintro e w2 ⟨v, rfl, hov, hb2⟩)))
    go_ret
    have hb01 := below_step hb0 hb1
    exact ⟨_, rfl, hov.mono hb01.size, below_step hb01 hb2⟩

end Go.Proofs.YtambhopkacgddaaDoor

/- Walk: Components. -/
namespace Go.Proofs.YtambhopkacgddaaDoor
open Go.RowKit

set_option maxHeartbeats 1600000 in
theorem components_any (A B : Option Addr) (ns cs nm cm : Nat) (lp : Int) (signs mate : List Int) (w : World) (h : DV w A ns B nm signs mate) :
    Calls Tryd.prog 23 #[dval A ns cs B nm cm lp] w fun e w' => e = .returned (.int .i64 (compM signs mate lp)) ∧ Below w.heap.size w w' := by
  have hd := DB.new w A ns cs B nm cm lp
  obtain ⟨d0, d1, d2, dlt⟩ := hd
  have hb0 := below_alloc w (dbox A ns cs B nm cm lp)
  have hls := h.hs.1
  have hlm := h.hm.1
  cases hv : validB signs mate lp with
  | false =>
    have e : compM signs mate lp = 0 := by simp [compM, hv]
    rw [e]
    have CV := Lib.hid ((h.keep hb0).valid cs cm lp false hv)
    clear e hv hls hlm
    go_enter Tryd.func23, Tryd.ntmps23
    go_wp2_with (go_at_call 22; ((with_reducible refine CV.out.mono ?_); rintro e w1 ⟨rfl, hb1⟩))
    go_ret
    exact ⟨rfl, below_step hb0 hb1⟩
  | true =>
    have CV := Lib.hid ((h.keep hb0).valid cs cm lp true hv)
    obtain ⟨v1, v2, v3, v4⟩ := validB_out hv
    rw [hls, hlm] at v1
    obtain ⟨l1, l2, l3, l4⟩ := limB_out v1
    have hsl := strandsM_le (signs := signs) (mate := mate) (lp := lp)
    rw [compM_add hv]
    have H := Lib.hid h
    have CS : ∀ W : World, Below (w.alloc (dbox A ns cs B nm cm lp)).heap.size (w.alloc (dbox A ns cs B nm cm lp)) W → Hid (Calls Tryd.prog 25 #[dval A ns cs B nm cm lp] W (CycsPost W (strandsM signs mate lp))) := fun W hb =>
      strands_any A B ns cs nm cm lp signs mate W (H.out.keep (below_step hb0 hb))
    generalize strandsM signs mate lp = xss at *
    have hwr : IntKind.i64.wrap ((xss.length : Int) + lp) = (xss.length : Int) + lp := IntWalk.i64_in _ (by omega)
    clear hv hls hlm v1 v2 v3 v4 l1 l2 h
    go_enter Tryd.func23, Tryd.ntmps23
    go_upto_region 3 with (go_at_call 22; ((with_reducible refine CV.out.mono ?_); rintro e w1 ⟨rfl, hb1⟩))
    have c0 := (hb1.cell (p := ⟨w.heap.size, 0, none⟩) dlt).trans d0
    have c1 := (hb1.cell (p := ⟨w.heap.size, 1, none⟩) dlt).trans d1
    have c2 := (hb1.cell (p := ⟨w.heap.size, 2, none⟩) dlt).trans d2
    have wlt := Nat.lt_of_lt_of_le dlt hb1.size
    have hbD : Below w1.heap.size w1 w1.drew := (Below.refl _ _).drew
    go_region_held3 (fun w' => w'.cell? ⟨w.heap.size, 0, none⟩ = some (.slice A ns cs) ∧ w'.cell? ⟨w.heap.size, 1, none⟩ = some (.slice B nm cm) ∧ w'.cell? ⟨w.heap.size, 2, none⟩ = some (.int .i64 lp))
      (first
        | go_keep
        | exact ⟨(hbB.cell (p := ⟨w.heap.size, 0, none⟩) wlt).trans c0, (hbB.cell (p := ⟨w.heap.size, 1, none⟩) wlt).trans c1, (hbB.cell (p := ⟨w.heap.size, 2, none⟩) wlt).trans c2⟩)
      (first
        | (go_at_call 25; ((with_reducible refine (CS _ (below_step hb1 hbD)).out.mono ?_); rintro e w2 ⟨v, rfl, hov, hb2⟩; have hbB := below_step hbD hb2; obtain ⟨Av, cv, rfl⟩ := hov.form)))
    go_wp2
    go_ret
    exact ⟨rfl, below_step hb0 (below_step hb1 hbB)⟩

end Go.Proofs.YtambhopkacgddaaDoor

/- Walks: Ints, Lists (the reference's comparisons), Great. -/
namespace Go.Proofs.YtambhopkacgddaaDoor
open Go.RowKit

theorem below_drewN {B : Nat} {a w : World} (h : Below B a w) (n : Nat) : Below B a (w.drewN n) := ⟨h.os, h.tape, h.output, h.size, h.block⟩

theorem eq_of_getD {xs ys : List Int} (h1 : xs.length = ys.length) (h2 : ∀ j, j < xs.length → xs.getD j 0 = ys.getD j 0) : xs = ys := by
  apply List.ext_getElem h1
  intro i a b
  have := h2 i a
  simpa [List.getD, a, b] using this
theorem eq_of_getDL {xs ys : List (List Int)} (h1 : xs.length = ys.length) (h2 : ∀ j, j < xs.length → xs.getD j [] = ys.getD j []) : xs = ys := by
  apply List.ext_getElem h1
  intro i a b
  have := h2 i a
  simpa [List.getD, a, b] using this

set_option maxHeartbeats 800000 in
theorem ints_r (r : Bool) (A B : Option Addr) (n c m d : Nat) (xs ys : List Int) (w : World) (hx : RI w A n xs) (hy : RI w B m ys) (hn : n ≤ 1000000000000000) (hm : m ≤ 1000000000000000) (hr : r = decide (xs = ys)) :
    Calls Tryd.prog 10 #[.slice A n c, .slice B m d] w fun e w' => e = .returned (.bool r) ∧ Below w.heap.size w w' := by
  have hlx := hx.1
  have hly := hy.1
  by_cases hnm : n = m
  · subst hnm
    have HLX := Lib.hid hlx
    have HLY := Lib.hid hly
    have HR := Lib.hid hr
    have HE : Hid (∀ j, j < 0 → xs.getD j 0 = ys.getD j 0) := fun j hj => absurd hj (by omega)
    clear hlx hly hr
    go_enter Tryd.func10, Tryd.ntmps10
    go_wp2
    go_loopw [5] (fun i wr => ∃ k : Nat, k ≤ n ∧ i = .int .i64 k ∧ Below w.heap.size w wr ∧ Hid (∀ j, j < k → xs.getD j 0 = ys.getD j 0)) (fun i _ => n - (intOf i).toNat)
    case atStart => exact ⟨0, by omega, rfl, Below.refl _ _, HE⟩
    case round =>
      obtain ⟨k, hk, rfl, hbr, hall⟩ := hrel
      by_cases hlt : k < n
      · obtain ⟨b, off, rfl, hb, hc⟩ := (hx.keep hbr).2 (by omega)
        obtain ⟨b', off', rfl, hb', hc'⟩ := (hy.keep hbr).2 (by omega)
        have h1 := hc k hlt
        have h2 := hc' k hlt
        have hk0 : (0 : Int) ≤ (k : Int) := Int.natCast_nonneg _
        have hk1 : (k : Int) < (n : Int) := by omega
        by_cases he : xs.getD k 0 = ys.getD k 0
        · have hall' : Hid (∀ j, j < k + 1 → xs.getD j 0 = ys.getD j 0) := fun j hj => by
            by_cases e : j = k
            · subst e; exact he
            · exact hall.out j (by omega)
          rw [← he] at h2
          clear hx hy hc hc' he
          generalize xs.getD k 0 = x at *
          go_wp2
          go_quiet (fail)
          go_wp2
          go_roundw
          case rel => exact ⟨k + 1, by omega, by go_num, below_drewN hbr _, hall'⟩
          case measure => simp [intOf]; omega
        · have hne : (xs.getD k 0 != ys.getD k 0) = true := by simp only [bne_iff_ne, ne_eq]; exact he
          have hrf : r = false := by
            rw [HR.out, decide_eq_false_iff_not]
            intro e; exact he (by rw [e])
          subst hrf
          clear hx hy hc hc' he HR
          generalize xs.getD k 0 = x at *
          generalize ys.getD k 0 = y at *
          go_wp2
          go_quiet (fail)
          go_wp2
          go_ret
          exact ⟨rfl, below_drewN hbr _⟩
      · obtain rfl : k = n := by omega
        have hrt : r = true := by
          rw [HR.out, decide_eq_true_eq]
          exact eq_of_getD (by rw [HLX.out, HLY.out]) (fun j hj => hall.out j (by rw [← HLX.out]; exact hj))
        subst hrt
        clear hx hy HR
        go_wp2
        go_ret
        exact ⟨rfl, hbr⟩
  · have hrf : r = false := by
      rw [hr, decide_eq_false_iff_not]
      intro e; rw [e] at hlx; omega
    subst hrf
    have hne : ((n : Int) != (m : Int)) = true := by simp only [bne_iff_ne, ne_eq]; omega
    clear hx hy hlx hly hr hnm
    go_enter Tryd.func10, Tryd.ntmps10
    go_wp2
    go_ret
    exact ⟨rfl, Below.refl _ _⟩

/-- The slice value 'slice A n _' reads as the list xss of lists of ints. -/
def RO (w : World) (A : Option Addr) (n : Nat) (xss : List (List Int)) : Prop :=
  xss.length = n ∧ (0 < n → ∃ b off, A = some ⟨b, off, none⟩ ∧ b < w.heap.size ∧ ∀ j, j < n → ∃ A' n' c', w.cell? ⟨b, off + j, none⟩ = some (.slice A' n' c') ∧ RI w A' n' (xss.getD j []))
theorem RO.keep {w w' : World} {A : Option Addr} {n : Nat} {xss : List (List Int)} (h : RO w A n xss) (hb : Below w.heap.size w w') : RO w' A n xss :=
  ⟨h.1, fun hn => by
    obtain ⟨b, off, e, hlt, hc⟩ := h.2 hn
    refine ⟨b, off, e, Nat.lt_of_lt_of_le hlt hb.size, fun j hj => ?_⟩
    obtain ⟨A', n', c', h1, h2⟩ := hc j hj
    exact ⟨A', n', c', (hb.cell (p := ⟨b, off + j, none⟩) hlt).trans h1, h2.keep hb⟩⟩
theorem OO.ro {w : World} {B : Nat} {v : Value} {xss : List (List Int)} (h : OO w B v xss) : ∃ A c, v = .slice A xss.length c ∧ RO w A xss.length xss := by
  obtain ⟨vs, h1, h2, h3⟩ := h
  rcases h1.2 with ⟨h4, h5⟩ | ⟨g, cap, cur, h4, _, hg, _⟩
  · refine ⟨none, 0, by rw [h4, ← h2, h5], rfl, fun hn => by omega⟩
  · refine ⟨_, cap, by rw [h4, h2], rfl, fun hn => ⟨g, 0, rfl, ?_, fun j hj => ?_⟩⟩
    · rcases Nat.lt_or_ge g w.heap.size with hlt | hge
      · exact hlt
      · rw [Array.getElem?_eq_none hge] at hg; cases hg
    · have hj' : j < vs.length := by omega
      have h6 : w.cell? ⟨g, j, none⟩ = vs[j]? := by
        have h7 : w.ownsRow B 22 1 (.slice (some ⟨g, 0, none⟩) vs.length cap) vs.length vs := by rw [← h4]; exact h1
        exact World.ownsRow.cellAt h7 j (by omega)
      have h8 := h3 j hj
      have h9 : vs.getD j undef = vs[j] := by simp [List.getD, hj']
      rw [h9] at h8
      have hsl : ∃ A' n' c', vs[j] = .slice A' n' c' := by
        rcases h8.form with ⟨e, _⟩ | ⟨g', cap', e, _⟩
        · exact ⟨_, _, _, e⟩
        · exact ⟨_, _, _, e⟩
      obtain ⟨A', n', c', e⟩ := hsl
      rw [e] at h8
      exact ⟨A', n', c', by rw [Nat.zero_add, h6, List.getElem?_eq_getElem hj', e], h8.ri⟩

theorem RO.at_ {w : World} {A : Option Addr} {n : Nat} {xss : List (List Int)} (h : RO w A n xss) (hn : 0 < n) : ∃ b off, A = some ⟨b, off, none⟩ ∧ b < w.heap.size := by
  obtain ⟨b, off, e, hb, _⟩ := h.2 hn; exact ⟨b, off, e, hb⟩
theorem RO.el {w : World} {b off n : Nat} {xss : List (List Int)} (h : RO w (some ⟨b, off, none⟩) n xss) (j : Nat) (hj : j < n) : ∃ A' n' c', w.cell? ⟨b, off + j, none⟩ = some (.slice A' n' c') ∧ RI w A' n' (xss.getD j []) := by
  obtain ⟨b', off', e, hb, hc⟩ := h.2 (by omega)
  injection e with e; injection e with e1 e2; subst e1; subst e2
  exact hc j hj

end Go.Proofs.YtambhopkacgddaaDoor

/- Walk: dowker.Of. -/
namespace Go.Proofs.YtambhopkacgddaaDoor
open Go.RowKit

/-- The error and the code of a diagram. -/
def ofE (s m : List Int) (lp : Int) : Int := if validB s m lp = false then 1 else if s.length = 0 then 8 else if 1 < compM s m lp then 16 else 0
def ofL (s m : List Int) (lp : Int) : List Int := if validB s m lp = false then [] else if s.length = 0 then [] else if 1 < compM s m lp then [] else cdF ((strandsM s m lp).getD 0 []) s.length
def DOfPost (s m : List Int) (lp : Int) (w : World) (e : Ending) (w' : World) : Prop :=
  ∃ A n c, e = .returned (.tuple #[.slice A n c, .int .i64 (ofE s m lp)]) ∧ RI w' A n (ofL s m lp) ∧ Below w.heap.size w w'

set_option maxHeartbeats 3200000 in
set_option maxRecDepth 100000 in
theorem dof_any (A B : Option Addr) (ns cs nm cm : Nat) (lp : Int) (s m : List Int) (w : World) (h : DV w A ns B nm s m) :
    Calls Tryd.prog 14 #[dval A ns cs B nm cm lp] w (DOfPost s m lp w) := by
  have hd := DB.new w A ns cs B nm cm lp
  obtain ⟨d0, d1, d2, dlt⟩ := hd
  have hb0 := below_alloc w (dbox A ns cs B nm cm lp)
  have hls := h.hs.1
  have HDV := Lib.hid (h.keep hb0)
  cases hv : validB s m lp with
  | false =>
    have CV := Lib.hid (HDV.out.valid cs cm lp false hv)
    have HE : Hid (ofE s m lp = 1 ∧ ofL s m lp = []) := Lib.hid (by simp [ofE, ofL, hv])
    clear h hv hls
    go_enter Tryd.func14, Tryd.ntmps14
    go_wp2_with (go_at_call 22; ((with_reducible refine CV.out.mono ?_); rintro e w1 ⟨rfl, hb1⟩))
    go_ret2
    obtain ⟨z1, z2⟩ := HE.out
    exact ⟨none, 0, 0, by rw [z1]; rfl, by rw [z2]; exact RI.nil _ _, below_step hb0 hb1⟩
  | true =>
    have CV := Lib.hid (HDV.out.valid cs cm lp true hv)
    by_cases h0 : ns = 0
    · have HE : Hid (ofE s m lp = 8 ∧ ofL s m lp = []) := Lib.hid (by simp [ofE, ofL, hv, hls, h0])
      have h0' : (ns : Int) = 0 := by omega
      clear h hv hls h0
      go_enter Tryd.func14, Tryd.ntmps14
      go_wp2_with (go_at_call 22; ((with_reducible refine CV.out.mono ?_); rintro e w1 ⟨rfl, hb1⟩; have e0 := (hb1.cell (p := ⟨w.heap.size, 0, none⟩) dlt).trans d0))
      go_ret2
      obtain ⟨z1, z2⟩ := HE.out
      exact ⟨none, 0, 0, by rw [z1]; rfl, by rw [z2]; exact RI.nil _ _, below_step hb0 hb1⟩
    · have h0' : ((ns : Int) == 0) = false := by simp; omega
      have CC : ∀ W, Below (w.alloc (dbox A ns cs B nm cm lp)).heap.size (w.alloc (dbox A ns cs B nm cm lp)) W → Hid (Calls Tryd.prog 23 #[dval A ns cs B nm cm lp] W fun e w' => e = .returned (.int .i64 (compM s m lp)) ∧ Below W.heap.size W w') := fun W hb =>
        components_any A B ns cs nm cm lp s m W (HDV.out.keep hb)
      by_cases hc : 1 < compM s m lp
      · have HE : Hid (ofE s m lp = 16 ∧ ofL s m lp = []) := Lib.hid (by simp [ofE, ofL, hv, hls, h0, hc])
        obtain ⟨cN, hcN⟩ : ∃ cN, compM s m lp = cN := ⟨_, rfl⟩
        simp only [hcN] at CC
        rw [hcN] at hc
        clear h hv hls h0 hcN
        go_enter Tryd.func14, Tryd.ntmps14
        go_wp2_with (first
          | (go_at_call 22; ((with_reducible refine CV.out.mono ?_); rintro e w1 ⟨rfl, hb1⟩; have e0 := (hb1.cell (p := ⟨w.heap.size, 0, none⟩) dlt).trans d0; have e1 := (hb1.cell (p := ⟨w.heap.size, 1, none⟩) dlt).trans d1; have e2 := (hb1.cell (p := ⟨w.heap.size, 2, none⟩) dlt).trans d2))
          | (go_at_call 23; ((with_reducible refine (CC _ hb1).out.mono ?_); rintro e w2 ⟨rfl, hb2⟩)))
        go_ret2
        obtain ⟨z1, z2⟩ := HE.out
        exact ⟨none, 0, 0, by rw [z1]; rfl, by rw [z2]; exact RI.nil _ _, below_step (below_step hb0 hb1) hb2⟩
      · obtain ⟨hlp0, st, hst, hk⟩ := knot_one hv (by omega) (by omega)
        clear hlp0
        have HE : Hid (ofE s m lp = 0 ∧ ofL s m lp = cdF st ns) := Lib.hid (by simp [ofE, ofL, hv, hls, h0, hc, hst])
        have CS : ∀ W, Below (w.alloc (dbox A ns cs B nm cm lp)).heap.size (w.alloc (dbox A ns cs B nm cm lp)) W → Hid (Calls Tryd.prog 25 #[dval A ns cs B nm cm lp] W (CycsPost W [st])) := fun W hb => by
          have := strands_any A B ns cs nm cm lp s m W (HDV.out.keep hb)
          rw [hst] at this; exact this
        have hn64 : ns ≤ 64 := by have := (bk_facts hv).le; omega
        rw [hls] at hk
        have CO : ∀ (W : World) (A' : Option Addr) (c' : Nat), RI W A' (2 * ns) st → Hid (Calls Tryd.prog 24 #[.slice A' (2 * ns) c'] W fun e w' => e = .returned (.slice (some ⟨W.heap.size, 0, none⟩) ns ns) ∧ Arr w' W.heap.size 3 ns (zv fun i => evK st ns (cr st (2 * i))) ∧ Below W.heap.size W w') := fun W A' c' hr =>
          codeOf_any A' ns c' st W hr hn64 (by omega) hk.rg
        have HKL := Lib.hid hk.len
        obtain ⟨cN, hcN⟩ : ∃ cN, compM s m lp = cN := ⟨_, rfl⟩
        simp only [hcN] at CC
        rw [hcN] at hc
        clear h hv hls h0 hcN hst hk
        go_enter Tryd.func14, Tryd.ntmps14
        go_wp2_with (first
          | (go_at_call 22; ((with_reducible refine CV.out.mono ?_); rintro e w1 ⟨rfl, hb1⟩; have e0 := (hb1.cell (p := ⟨w.heap.size, 0, none⟩) dlt).trans d0; have e1 := (hb1.cell (p := ⟨w.heap.size, 1, none⟩) dlt).trans d1; have e2 := (hb1.cell (p := ⟨w.heap.size, 2, none⟩) dlt).trans d2; have elt := Nat.lt_of_lt_of_le dlt hb1.size))
          | (go_at_call 23; ((with_reducible refine (CC _ hb1).out.mono ?_); rintro e w2 ⟨rfl, hb2⟩; have hb12 := below_step hb1 hb2; have f0 := (hb2.cell (p := ⟨w.heap.size, 0, none⟩) elt).trans e0; have f1 := (hb2.cell (p := ⟨w.heap.size, 1, none⟩) elt).trans e1; have f2 := (hb2.cell (p := ⟨w.heap.size, 2, none⟩) elt).trans e2))
          | (go_at_call 25; ((with_reducible refine (CS _ hb12).out.mono ?_); rintro e w3 ⟨v3, rfl, ho, hb3⟩; obtain ⟨A3, c3, rfl, hro⟩ := ho.ro; obtain ⟨b3, o3, rfl, hbl⟩ := hro.at_ (Nat.zero_lt_succ _); obtain ⟨A4, n4, c4, hcel, hri⟩ := hro.el 0 (Nat.zero_lt_succ _); rw [Nat.add_zero] at hcel; obtain rfl : n4 = 2 * ns := hri.1.symm.trans HKL.out; have hb13 := below_step hb12 hb3))
          | (go_at_call 24; ((with_reducible refine (CO _ _ _ hri).out.mono ?_); rintro e w4 ⟨rfl, hA4, hb4⟩)))
        go_ret2
        obtain ⟨z1, z2⟩ := HE.out
        exact ⟨_, ns, ns, by rw [z1]; rfl, by rw [z2]; exact ri_arr hA4, below_step (below_step hb0 hb13) hb4⟩

end Go.Proofs.YtambhopkacgddaaDoor
