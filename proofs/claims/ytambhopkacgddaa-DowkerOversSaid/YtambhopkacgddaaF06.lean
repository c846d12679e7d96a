import Derived.Test.YtambhopkacgddaaF05
import Derived.Deep.LoopGhost
import Derived.Test.YtambhopkacgddaaF02
import Derived.Test.YtambhopkacgddaaF03
/- Walk: dowker.Valid. -/
namespace Go.Proofs.Ytambhopkacgddaa
open Go.RowKit

/-- Block g tells which absolute values the first k numbers have. -/
def SeenD (code : List Int) (k g : Nat) (w : World) : Prop := ∃ S : Nat → Bool, Arr w g 49 129 (bv S) ∧ ∀ x : Nat, x < 129 → (S x = true ↔ ∃ j, j < k ∧ szI (code.getD j 0) = (x : Int))

theorem okAt_no {code : List Int} {k : Nat} (h : okAt code k = false) (hk : k < code.length) : dvB code = false := by
  cases e : dvB code with
  | false => rfl
  | true => rw [((dvB_iff code).1 e).2.2 k hk] at h; cases h

set_option maxHeartbeats 3200000 in
set_option maxRecDepth 100000 in
theorem dvalid_r (r : Bool) (A : Option Addr) (n c : Nat) (code : List Int) (w : World) (hs : RI w A n code) (hn : n ≤ 9223372036854775807) (hI : inL code) (hr : r = dvB code) :
    Calls Try.prog 16 #[.slice A n c] w fun e w' => e = .returned (.bool r) ∧ Below w.heap.size w w' := by
  have hl := hs.1
  by_cases h0 : 1 ≤ n ∧ n ≤ 64
  · obtain ⟨h1, h64⟩ := h0
    obtain ⟨b, off, rfl, hb, hc⟩ := hs.2 (by omega)
    have HR := Lib.hid hr
    have HI := Lib.hid hI
    have HL := Lib.hid hl
    clear hr hI hl hs
    have hzv := fal129_run
    have hzn := fal129_ne
    have hn1 : ¬ (n : Int) < 1 := by omega
    have hn2 : (n : Int) ≤ 64 := by omega
    go_enter Try.func16, Try.ntmps16
    go_wp2
    try rw [fal129_eq]
    rw [fal129_def]
    have hb0 := below_alloc w (.cells (cellsN 129 (bv fun _ => false)) 49)
    have hA0 : Arr (w.alloc (.cells (cellsN 129 (bv fun _ => false)) 49)) w.heap.size 49 129 (bv fun _ => false) := Arr.new w _ _ _
    have hs0 : SeenD code 0 w.heap.size (w.alloc (.cells (cellsN 129 (bv fun _ => false)) 49)) := ⟨_, hA0, fun x _ => ⟨fun h => Bool.noConfusion h, fun ⟨_, h, _⟩ => absurd h (by omega)⟩⟩
    clear hA0 hzv hzn
    generalize w.alloc (.cells (cellsN 129 (bv fun _ => false)) 49) = wA at hs0 hb0
    go_loopw [6, 7, 18] (fun _ _ i wr => ∃ k : Nat, k ≤ n ∧ i = .int .i64 k ∧ Below w.heap.size w wr ∧ SeenD code k w.heap.size wr ∧ ∀ j, j < k → okAt code j = true) (fun _ _ i _ => n - (intOf i).toNat)
    case atStart => exact ⟨0, by omega, rfl, hb0, hs0, fun j hj => absurd hj (by omega)⟩
    case round =>
      obtain ⟨k, hk, rfl, hbr, hsr, hok⟩ := hrel
      have HOK := Lib.hid hok
      clear hok hs0 hb0
      by_cases hlt : k < n
      · obtain ⟨S, hA, hS⟩ := hsr
        have hcell : wr.cell? ⟨b, off + k, none⟩ = some (.int .i64 (code.getD k 0)) := (hbr.cell (p := ⟨b, off + k, none⟩) hb).trans (hc k hlt)
        have hkL : k < code.length := by rw [HL.out]; exact hlt
        have hIk := HI.out k
        have CE := Lib.hid (even_any (code.getD k 0) wr hIk.1 hIk.2)
        have hok1 := okAt_iff code k
        have hno := fun h => (HR.out.trans (okAt_no (code := code) (k := k) h hkL) : r = false)
        rw [HL.out] at hok1
        obtain ⟨x, hx⟩ : ∃ x, code.getD k 0 = x := ⟨_, rfl⟩
        obtain ⟨v, hv⟩ : ∃ v, szI x = v := ⟨_, rfl⟩
        have HSx : szI (code.getD k 0) = v := by rw [hx, hv]
        have HSX := Lib.hid HSx
        rw [HSx] at hok1
        rw [hx, hv] at CE
        rw [hx] at hcell hIk
        have HNO := Lib.hid hno
        have HOK1 := Lib.hid hok1
        have HS := Lib.hid hS
        have HA := Lib.hid hA
        clear hx hv HSx hno hok1 hS hA hkL
        have hk0 : (0 : Int) ≤ (k : Int) := Int.natCast_nonneg _
        have hk1 : (k : Int) < (n : Int) := by omega
        by_cases c1 : v < 2
        · have e : r = false := HNO.out (by
            cases q : okAt code k with
            | false => rfl
            | true => have := (HOK1.out.1 q).1; omega)
          have HE := Lib.hid e
          clear e
          go_wp2_with ((with_reducible refine CE.out.mono ?_); rintro e w1 ⟨rfl, rfl⟩)
          go_ret
          exact ⟨ret_bool HE.out.symm, hbr⟩
        · by_cases c2 : 2 * (n : Int) < v
          · have e : r = false := HNO.out (by
              cases q : okAt code k with
              | false => rfl
              | true => have := (HOK1.out.1 q).2.1; omega)
            have HE := Lib.hid e
            clear e
            go_wp2_with ((with_reducible refine CE.out.mono ?_); rintro e w1 ⟨rfl, rfl⟩)
            go_ret
            exact ⟨ret_bool HE.out.symm, hbr⟩
          · obtain ⟨u, rfl⟩ : ∃ u : Nat, v = u := ⟨v.toNat, by omega⟩
            have hu0 : (0 : Int) ≤ (u : Int) := Int.natCast_nonneg _
            have hu129 : u < 129 := by omega
            have hu1 : (u : Int) < 129 := by omega
            by_cases c3 : (u : Int) % 2 = 0
            · cases hSu : S u with
              | true =>
                obtain ⟨j, hj, ej⟩ := (HS.out u hu129).1 hSu
                have e : r = false := HNO.out (by
                  cases q : okAt code k with
                  | false => rfl
                  | true => exact absurd ej ((HOK1.out.1 q).2.2.2 j hj))
                have HE := Lib.hid e
                have hcS : wr.cell? ⟨w.heap.size, u, none⟩ = some (.bool true) := by rw [HA.out.cell u hu129]; show some (Value.bool (S u)) = _; rw [hSu]
                clear e hSu ej
                go_wp2_with ((with_reducible refine CE.out.mono ?_); rintro e w1 ⟨rfl, rfl⟩)
                go_ret
                exact ⟨ret_bool HE.out.symm, hbr⟩
              | false =>
                have hcS : wr.cell? ⟨w.heap.size, u, none⟩ = some (.bool false) := by rw [HA.out.cell u hu129]; show some (Value.bool (S u)) = _; rw [hSu]
                have hfS := HA.out.frozen u
                have hokk : okAt code k = true := HOK1.out.2 ⟨by omega, by omega, by omega, fun j hj ej => by
                  rw [(HS.out u hu129).2 ⟨j, hj, ej⟩] at hSu; cases hSu⟩
                have hs2 : SeenD code (k + 1) w.heap.size (wr.setCell ⟨w.heap.size, u, none⟩ (.bool true)) := by
                  refine ⟨_, HA.out.setb u true, fun x hx => ?_⟩
                  by_cases e : x = u
                  · subst e; simp only [if_pos]
                    exact ⟨fun _ => ⟨k, by omega, HSX.out⟩, fun _ => trivial⟩
                  · simp only [if_neg e]
                    refine (HS.out x hx).trans ⟨fun ⟨j, h1, h2⟩ => ⟨j, by omega, h2⟩, fun ⟨j, h1, h2⟩ => ⟨j, ?_, h2⟩⟩
                    by_cases ej : j = k
                    · subst ej; rw [HSX.out] at h2; omega
                    · omega
                have hall : ∀ j, j < k + 1 → okAt code j = true := fun j hj => by
                  by_cases e : j = k
                  · subst e; exact hokk
                  · exact HOK.out j (by omega)
                have HALL := Lib.hid hall
                have HS2 := Lib.hid hs2
                clear hall hs2 hokk hSu
                go_wp2_with ((with_reducible refine CE.out.mono ?_); rintro e w1 ⟨rfl, rfl⟩)
                go_roundw
                case rel => exact ⟨k + 1, by omega, by go_num, below_set hbr (Nat.le_refl _) _, HS2.out, HALL.out⟩
                case measure => simp [intOf]; omega
            · have e : r = false := HNO.out (by
                cases q : okAt code k with
                | false => rfl
                | true => exact absurd (HOK1.out.1 q).2.2.1 c3)
              have HE := Lib.hid e
              have c3' : (u : Int) % 2 = 1 := by omega
              clear e c3
              go_wp2_with ((with_reducible refine CE.out.mono ?_); rintro e w1 ⟨rfl, rfl⟩)
              go_ret
              exact ⟨ret_bool HE.out.symm, hbr⟩
      · obtain rfl : k = n := by omega
        have e : r = true := by
          rw [HR.out]
          exact (dvB_iff _).2 ⟨by rw [HL.out]; exact h1, by rw [HL.out]; exact h64, fun i hi => HOK.out i (by rw [← HL.out]; exact hi)⟩
        have HE := Lib.hid e
        clear e hlt hk
        go_wp2
        go_ret
        exact ⟨ret_bool HE.out.symm, hbr⟩
  · have e : r = false := by
      rw [hr]
      cases q : dvB code with
      | false => rfl
      | true => have := (dvB_iff _).1 q; omega
    have HE := Lib.hid e
    clear e hr hI hs hl
    by_cases h1 : n < 1
    · have h1' : (n : Int) < 1 := by omega
      clear h0
      go_enter Try.func16, Try.ntmps16
      go_wp2
      go_ret
      exact ⟨ret_bool HE.out.symm, Below.refl _ _⟩
    · have h1' : ¬ (n : Int) < 1 := by omega
      have h2' : 64 < (n : Int) := by omega
      clear h0
      go_enter Try.func16, Try.ntmps16
      go_wp2
      go_ret
      exact ⟨ret_bool HE.out.symm, Below.refl _ _⟩
theorem dvalid_any (A : Option Addr) (n c : Nat) (code : List Int) (w : World) (hs : RI w A n code) (hn : n ≤ 9223372036854775807) (hI : inL code) :
    Calls Try.prog 16 #[.slice A n c] w fun e w' => e = .returned (.bool (dvB code)) ∧ Below w.heap.size w w' := dvalid_r _ A n c code w hs hn hI rfl

end Go.Proofs.Ytambhopkacgddaa

/- Words for memory: a store into one row leaves the others as they were. -/
namespace Go.Proofs.Ytambhopkacgddaa
open Go.RowKit

theorem OI.set_ {w : World} {B g n cap : Nat} {xs : List Int} (h : OI w B (.slice (some ⟨g, 0, none⟩) n cap) xs) (hl : xs.length = n) (j : Nat) (z : Int) :
    OI (w.setCell ⟨g, j, none⟩ (.int .i64 z)) B (.slice (some ⟨g, 0, none⟩) n cap) (xs.set j z) ∧ w.grownBy (w.setCell ⟨g, j, none⟩ (.int .i64 z)) (some g) := by
  subst hl
  have := World.ownsRow.stored h j (.int .i64 z)
  refine ⟨?_, this.2⟩
  unfold OI
  simpa [ints, List.map_set] using this.1

theorem OI.apart_lt {w : World} {B : Nat} {v : Value} {xs : List Int} (h : OI w B v xs) (row : Option Nat) (hr : ∀ g, row = some g → g < B) : v.ownBlock = none ∨ v.ownBlock ≠ row := by
  cases hv : v.ownBlock with
  | none => exact .inl rfl
  | some g =>
    refine .inr fun e => ?_
    have h1 := (World.ownsRow.lt h g hv).1
    have h2 := hr g e.symm
    omega

theorem ownRow.apart_lt {w : World} {B : Nat} {e : TypeId} {v : Value} {vs : List Value} (h : ownRow w B e v vs) (row : Option Nat) (hr : ∀ g, row = some g → g < B) : v.ownBlock = none ∨ v.ownBlock ≠ row := by
  cases hv : v.ownBlock with
  | none => exact .inl rfl
  | some g =>
    refine .inr fun e => ?_
    have h1 := (World.ownsRow.lt h g hv).1
    have h2 := hr g e.symm
    omega
theorem OO.grown_lt {w w' : World} {B : Nat} {v : Value} {xss : List (List Int)} (h : OO w B v xss) {row : Option Nat} (hg : w.grownBy w' row) (hr : ∀ g, row = some g → g < B) : OO w' B v xss := by
  obtain ⟨vs, h1, h2, h3⟩ := h
  exact ⟨vs, World.ownsRow.kept h1 hg (h1.apart_lt row hr), h2, fun i hi => (h3 i hi).grown hg ((h3 i hi).apart_lt row hr)⟩
theorem grown_set {w wr : World} {g : Nat} (h : w.grownBy wr (some g)) (j : Nat) (u : Value) : w.grownBy (wr.setCell ⟨g, j, none⟩ u) (some g) :=
  h.trans ⟨rfl, rfl, rfl, by simp [World.setCell], fun k _ hne => Below.heap_setCell wr ⟨g, j, none⟩ u k (by rintro rfl; exact hne rfl)⟩
theorem grown_below {W w w' : World} {B : Nat} (hb : Below B W w) {g : Nat} (hg : w.grownBy w' (some g)) (hB : B ≤ w.heap.size) (hgB : B ≤ g) : Below B W w' := hb.grown hg hB (fun k e => by injection e with e; omega)
/-- A row of a slice of slices of the call's own. -/
theorem OO.el {w : World} {B n c : Nat} {A : Option Addr} {xss : List (List Int)} (h : OO w B (.slice A n c) xss) (k : Nat) (hk : k < xss.length) :
    n = xss.length ∧ ∃ gA A' n' c', A = some ⟨gA, 0, none⟩ ∧ B ≤ gA ∧ gA < w.heap.size ∧ w.cell? ⟨gA, k, none⟩ = some (.slice A' n' c') ∧ OI w B (.slice A' n' c') (xss.getD k []) := by
  obtain ⟨vs, h1, h2, h3⟩ := h
  have hk' : k < vs.length := by omega
  have h8 := h3 k hk
  have h9 : vs.getD k undef = vs[k] := by simp [List.getD, hk']
  rw [h9] at h8
  have hsl : ∃ A' n' c', vs[k] = .slice A' n' c' := by
    rcases h8.form with ⟨e, _⟩ | ⟨g', cap', e, _⟩
    · exact ⟨_, _, _, e⟩
    · exact ⟨_, _, _, e⟩
  obtain ⟨A', n', c', e⟩ := hsl
  rcases h1.2 with ⟨h4, h5⟩ | ⟨g, cap, cur, h4, hB, hg, _⟩
  · omega
  · injection h4 with e1 e2 e3
    have hlt : g < w.heap.size := by
      rcases Nat.lt_or_ge g w.heap.size with hlt | hge
      · exact hlt
      · rw [Array.getElem?_eq_none hge] at hg; cases hg
    subst e1; subst e2; subst e3
    have h6 : w.cell? ⟨g, k, none⟩ = vs[k]? := World.ownsRow.cellAt h1 k (by omega)
    rw [e] at h8
    exact ⟨h2, g, A', n', c', rfl, hB, hlt, by rw [h6, List.getElem?_eq_getElem hk', e], h8⟩

end Go.Proofs.Ytambhopkacgddaa

/- Walk: the mates of a code's diagram. -/
namespace Go.Proofs.Ytambhopkacgddaa
open Go.RowKit

theorem opp_nat (x : Nat) (w : World) (hx : x ≤ 1000000) : Calls Try.prog 58 #[.int .i64 (x : Nat)] w fun e w' => e = .returned (.int .i64 (trn x 2 : Nat)) ∧ w = w' := by
  rw [← turnI_opp]; exact opposite_any _ w (by omega) (by omega)
theorem grownBy_refl (w : World) (row : Option Nat) : w.grownBy w row := ⟨rfl, rfl, rfl, Nat.le_refl _, fun _ _ _ => rfl⟩
theorem grownBy_trans {w w1 w2 : World} {g : Nat} (h : Below w.heap.size w w1) (_ : g < w.heap.size) (k : w1.grownBy w2 (some g)) : w.grownBy w2 (some g) :=
  ⟨k.os.trans h.os, k.tape.trans h.tape, k.output.trans h.output, Nat.le_trans h.size k.size, fun b hb hne => (k.block b (Nat.lt_of_lt_of_le hb h.size) hne).trans (h.block b hb)⟩
theorem grown_drew {w w' : World} {row : Option Nat} (h : w.grownBy w' row) : w.grownBy w'.drew row := ⟨h.os, h.tape, h.output, h.size, h.block⟩
def JoinPost (w : World) (gM nm : Nat) (M : Nat → Nat) (e : Ending) (w' : World) : Prop := e = .returned (.tuple #[]) ∧ w.grownBy w' (some gM) ∧ Arr w' gM 3 nm (iv M)

set_option maxHeartbeats 3200000 in
set_option maxRecDepth 100000 in
theorem join_any (A C : Option Addr) (n cs cc cm gM : Nat) (lp : Int) (code s : List Int) (M : Nat → Nat) (w : World) (hC : RI w C n code) (hA : RI w A n s) (h64 : n ≤ 64) (hI : inL code) (hv : dvB code = true) (hM : Arr w gM 3 (4 * n) (iv M)) :
    Calls Try.prog 52 #[dval A n cs (some ⟨gM, 0, none⟩) (4 * n) cm lp, .slice C n cc] w (JoinPost w gM (4 * n) (jnN (exN code s n) (2 * n) (2 * n) M)) := by
  have hpos : 0 < n := by have := (dvB_iff code).1 hv; have := hC.1; omega
  have hgM := hM.lt
  have hd := DB.new w A n cs (some ⟨gM, 0, none⟩) (4 * n) cm lp
  obtain ⟨d0, d1, d2, dlt⟩ := hd
  have CE := Lib.hid (exits_any A C n cs cc code s (w.alloc (dbox A n cs (some ⟨gM, 0, none⟩) (4 * n) cm lp)) (hC.alloc _) (hA.alloc _) h64 hI hv)
  have HE : Hid (∀ x, exN code s n x < 4 * n) := Lib.hid (fun x => by have := exN_lt code s n x; omega)
  obtain ⟨E, hE⟩ : ∃ E, exN code s n = E := ⟨_, rfl⟩
  rw [hE] at CE HE ⊢
  obtain ⟨L, hL⟩ : ∃ L, 2 * n = L := ⟨_, rfl⟩
  obtain ⟨nm, hnm⟩ : ∃ nm, 4 * n = nm := ⟨_, rfl⟩
  rw [hL] at CE ⊢
  rw [hnm] at HE hM d0 d1 d2 dlt CE ⊢
  have hL1 : 0 < L := by omega
  have hL2 : L ≤ 128 := by omega
  have hnm1 : nm ≤ 256 := by omega
  have HN4 : Hid (nm % 4 = 0) := Lib.hid (by omega)
  clear hE hL hnm hC hA hI hv
  have hb0 := below_alloc w (dbox A n cs (some ⟨gM, 0, none⟩) nm cm lp)
  have hM0 := hM.keep hb0
  have hL0 : (0 : Int) < (L : Int) := by omega
  have hL3 : (L : Int) ≤ 128 := by omega
  have hnm0 : (nm : Int) ≤ 256 := by omega
  go_enter Try.func52, Try.ntmps52
  go_wp2_with ((with_reducible refine CE.out.mono ?_); rintro e w1 ⟨rfl, hAE, hb1⟩; have e0 := (hb1.cell (p := ⟨w.heap.size, 0, none⟩) dlt).trans d0; have e1 := (hb1.cell (p := ⟨w.heap.size, 1, none⟩) dlt).trans d1; have e2 := (hb1.cell (p := ⟨w.heap.size, 2, none⟩) dlt).trans d2)
  have hM1 := hM0.keep hb1
  have hbw := below_step hb0 hb1
  have hwlt : w.heap.size < w1.heap.size := Nat.lt_of_lt_of_le dlt hb1.size
  have hsz1 : (w.alloc (dbox A n cs (some ⟨gM, 0, none⟩) nm cm lp)).heap.size = w.heap.size + 1 := by simp
  rw [hsz1] at hAE
  obtain ⟨gE, hgE⟩ : ∃ gE, w.heap.size + 1 = gE := ⟨_, rfl⟩
  have hgE2 : w.heap.size < gE := by omega
  rw [hgE] at hAE ⊢
  clear hsz1
  generalize hMM : jnN E L 0 M = M0
  have hMr : Arr w1 gM 3 nm (iv (jnN E L 0 M)) := hM1
  have hne1 : gE ≠ gM := by omega
  have hne2 : w.heap.size ≠ gM := by omega
  have HGE := Lib.hid hgE
  clear hgE hMM M0 hM1 hM0 d0 d1 d2 hb1 hb0 hM CE
  go_loopw [5, 6, 7, 14] (fun _ _ _ i wr => ∃ k : Nat, k ≤ L ∧ i = .int .i64 k ∧ w1.grownBy wr (some gM) ∧ Arr wr gM 3 nm (iv (jnN E L k M))) (fun _ _ _ i _ => L - (intOf i).toNat)
  case atStart => exact ⟨0, by omega, rfl, grownBy_refl _ _, hMr⟩
  case round =>
    obtain ⟨k, hk, rfl, hgr, hMk⟩ := hrel
    have hAr := hAE.grown hgr (by simp; omega)
    have x0 := (hgr.cell_far ⟨w.heap.size, 0, none⟩ hwlt (by simp; omega)).trans e0
    have x1 := (hgr.cell_far ⟨w.heap.size, 1, none⟩ hwlt (by simp; omega)).trans e1
    have x2 := (hgr.cell_far ⟨w.heap.size, 2, none⟩ hwlt (by simp; omega)).trans e2
    by_cases hlt : k < L
    · obtain ⟨q, hq⟩ : ∃ q, (k + 1) % L = q := ⟨_, rfl⟩
      have hqL : q < L := by rw [← hq]; exact Nat.mod_lt _ hL1
      have hqi : ((k : Int) + 1) % (L : Int) = (q : Int) := by rw [← hq]; simp
      have cE1 := hAr.cell k hlt
      have cE2 := hAr.cell q hqL
      have hstep : jnN E L (k + 1) M = upd (upd (jnN E L k M) (E k) (trn (E ((k + 1) % L)) 2)) (trn (E ((k + 1) % L)) 2) (E k) := rfl
      rw [hq] at hstep
      have ho1 := HE.out k
      have ho2 := HE.out q
      have ho3 : trn (E q) 2 < nm := by have := HE.out q; have := HN4.out; unfold trn; omega
      have CO := fun W => Lib.hid (opp_nat (E q) W (by omega))
      have cE1' : wr.cell? ⟨gE, k, none⟩ = some (.int .i64 (E k : Nat)) := cE1
      have cE2' : wr.cell? ⟨gE, q, none⟩ = some (.int .i64 (E q : Nat)) := cE2
      clear cE1 cE2 hq
      obtain ⟨o, hoo⟩ : ∃ o, E k = o := ⟨_, rfl⟩
      obtain ⟨i', hii⟩ : ∃ i', trn (E q) 2 = i' := ⟨_, rfl⟩
      obtain ⟨o2, ho22⟩ : ∃ o2, E q = o2 := ⟨_, rfl⟩
      rw [hoo] at cE1' ho1 hstep
      rw [hii] at ho3 hstep CO
      rw [ho22] at cE2' ho2 CO
      have hA2 : Arr ((wr.setCell ⟨gM, o, none⟩ (.int .i64 (i' : Nat))).setCell ⟨gM, i', none⟩ (.int .i64 (o : Nat))) gM 3 nm (iv (jnN E L (k + 1) M)) := by
        rw [hstep]; exact (hMk.seti _ _).seti _ _
      have f1 := hMk.frozen o
      have c1 := hMk.cell o ho1
      have f2 := (hMk.seti o i').frozen i'
      have c2 : (wr.setCell ⟨gM, o, none⟩ (.int .i64 (i' : Nat))).cell? ⟨gM, i', none⟩ = some (.int .i64 (upd (jnN E L k M) o i' i' : Nat)) := (hMk.seti o i').cell i' ho3
      have hg2 : w1.grownBy ((wr.setCell ⟨gM, o, none⟩ (.int .i64 (i' : Nat))).setCell ⟨gM, i', none⟩ (.int .i64 (o : Nat))) (some gM) := grown_set (grown_set hgr _ _) _ _
      have HA2 := Lib.hid hA2
      have HG2 := Lib.hid hg2
      clear hA2 hg2 hstep hoo hii ho22 hAr hMr hAE hgr e0 e1 e2
      have hk0 : (0 : Int) ≤ (k : Int) := Int.natCast_nonneg _
      have hk1 : (k : Int) < (L : Int) := by omega
      have hq0 : (0 : Int) ≤ (q : Int) := Int.natCast_nonneg _
      have hq1 : (q : Int) < (L : Int) := by omega
      have hL4 : ¬ (L : Int) = 0 := by omega
      have ho10 : (0 : Int) ≤ (o : Int) := Int.natCast_nonneg _
      have ho11 : (o : Int) < (nm : Int) := by omega
      have hi0 : (0 : Int) ≤ (i' : Int) := Int.natCast_nonneg _
      have hi1 : (i' : Int) < (nm : Int) := by omega
      go_wp2_with (go_at_call 58; ((with_reducible refine (CO _).out.mono ?_); rintro e w2 ⟨rfl, rfl⟩))
      go_region
      all_goals
        go_wp2
        go_roundw
        case rel => exact ⟨k + 1, by omega, by go_num, grown_drew HG2.out, HA2.out.drew⟩
        case measure => simp [intOf]; omega
    · obtain rfl : k = L := by omega
      clear hlt hk
      go_wp2
      go_end0
      exact ⟨rfl, grownBy_trans hbw (by omega) hgr, hMk⟩

end Go.Proofs.Ytambhopkacgddaa

/- Walk: the search for the signs of a code. -/
namespace Go.Proofs.Ytambhopkacgddaa
open Go.RowKit

/-- The first signs that begin with p and make the diagram valid. -/
def srch (code : List Int) : Nat → List Int → Option (List Int)
  | 0, p => if validB p (mkM code p) 0 = true then some p else none
  | k + 1, p => match srch code k (p ++ [1]) with
    | some l => some l
    | none => srch code k (p ++ [-1])

theorem ri_arr {w : World} {g n : Nat} {S : Nat → Int} (h : Arr w g 3 n (zv S)) : RI w (some ⟨g, 0, none⟩) n (lstI n S) :=
  ⟨lstI_length _ _, fun _ => ⟨g, 0, rfl, h.lt, fun j hj => by rw [lstI_get hj, Nat.zero_add]; exact h.cell j hj⟩⟩
theorem rn_arr {w : World} {g n : Nat} {M : Nat → Nat} (h : Arr w g 3 n (iv M)) : RI w (some ⟨g, 0, none⟩) n (lstN n M) :=
  ⟨lstN_length _ _, fun _ => ⟨g, 0, rfl, h.lt, fun j hj => by rw [lstN_get hj, Nat.zero_add]; exact h.cell j hj⟩⟩

/-- The variables of the search. -/
structure Scn (gc gn gd gf gS gM n cs cm cc : Nat) (C : Option Addr) (w0 : World) (code : List Int) (w : World) (S : Nat → Int) (M : Nat → Nat) : Prop where
  hb : Below w0.heap.size w0 w
  hC : RI w0 C n code
  cn : w.cell? ⟨gn, 0, none⟩ = some (.int .i64 n)
  cd : DB w gd (some ⟨gS, 0, none⟩) n cs (some ⟨gM, 0, none⟩) (4 * n) cm 0
  cc : w.cell? ⟨gc, 0, none⟩ = some (.slice C n cc)
  cf : w.cell? ⟨gf, 0, none⟩ = some (.func (.func 51) #[] #[.pointer (some ⟨gn, 0, none⟩), .pointer (some ⟨gd, 0, none⟩), .pointer (some ⟨gc, 0, none⟩), .pointer (some ⟨gf, 0, none⟩)])
  aS : Arr w gS 3 n (zv S)
  aM : Arr w gM 3 (4 * n) (iv M)
  lt : gc < w.heap.size ∧ gn < w.heap.size ∧ gf < w.heap.size
  old : w0.heap.size ≤ gS ∧ w0.heap.size ≤ gM
  ne : gS ≠ gM ∧ gc ≠ gS ∧ gc ≠ gM ∧ gn ≠ gS ∧ gn ≠ gM ∧ gd ≠ gS ∧ gd ≠ gM ∧ gf ≠ gS ∧ gf ≠ gM

section
variable {gc gn gd gf gS gM n cs cm cc : Nat} {C : Option Addr} {w0 : World} {code : List Int} {w : World} {S : Nat → Int} {M : Nat → Nat}
theorem Scn.keep {w' : World} (h : Scn gc gn gd gf gS gM n cs cm cc C w0 code w S M) (hb : Below w.heap.size w w') : Scn gc gn gd gf gS gM n cs cm cc C w0 code w' S M :=
  ⟨h.hb.trans (hb.mono h.hb.size), h.hC, (hb.cell (p := ⟨gn, 0, none⟩) h.lt.2.1).trans h.cn, h.cd.keep hb, (hb.cell (p := ⟨gc, 0, none⟩) h.lt.1).trans h.cc, (hb.cell (p := ⟨gf, 0, none⟩) h.lt.2.2).trans h.cf, h.aS.keep hb, h.aM.keep hb,
    ⟨Nat.lt_of_lt_of_le h.lt.1 hb.size, Nat.lt_of_lt_of_le h.lt.2.1 hb.size, Nat.lt_of_lt_of_le h.lt.2.2 hb.size⟩, h.old, h.ne⟩
theorem db_grown {w w' : World} {g k : Nat} {A : Option Addr} {ns cs : Nat} {B : Option Addr} {nm cm : Nat} {lp : Int} (h : DB w g A ns cs B nm cm lp) (hg : w.grownBy w' (some k)) (hne : g ≠ k) : DB w' g A ns cs B nm cm lp :=
  ⟨(hg.cell_far ⟨g, 0, none⟩ h.2.2.2 (by simp; omega)).trans h.1, (hg.cell_far ⟨g, 1, none⟩ h.2.2.2 (by simp; omega)).trans h.2.1, (hg.cell_far ⟨g, 2, none⟩ h.2.2.2 (by simp; omega)).trans h.2.2.1, Nat.lt_of_lt_of_le h.2.2.2 hg.size⟩
theorem Scn.joined {w' : World} {M' : Nat → Nat} (h : Scn gc gn gd gf gS gM n cs cm cc C w0 code w S M) (hg : w.grownBy w' (some gM)) (hM : Arr w' gM 3 (4 * n) (iv M')) : Scn gc gn gd gf gS gM n cs cm cc C w0 code w' S M' := by
  obtain ⟨n1, n2, n3, n4, n5, n6, n7, n8, n9⟩ := h.ne
  exact ⟨h.hb.grown hg h.hb.size (fun k e => by injection e with e; have := h.old.2; omega), h.hC, (hg.cell_far ⟨gn, 0, none⟩ h.lt.2.1 (by simp; omega)).trans h.cn, db_grown h.cd hg n7, (hg.cell_far ⟨gc, 0, none⟩ h.lt.1 (by simp; omega)).trans h.cc,
    (hg.cell_far ⟨gf, 0, none⟩ h.lt.2.2 (by simp; omega)).trans h.cf, h.aS.grown hg (by simp; omega), hM,
    ⟨Nat.lt_of_lt_of_le h.lt.1 hg.size, Nat.lt_of_lt_of_le h.lt.2.1 hg.size, Nat.lt_of_lt_of_le h.lt.2.2 hg.size⟩, h.old, h.ne⟩
theorem Scn.sign (h : Scn gc gn gd gf gS gM n cs cm cc C w0 code w S M) (i : Nat) (v : Int) : Scn gc gn gd gf gS gM n cs cm cc C w0 code (w.setCell ⟨gS, i, none⟩ (.int .i64 v)) (fun j => if j = i then v else S j) M := by
  obtain ⟨n1, n2, n3, n4, n5, n6, n7, n8, n9⟩ := h.ne
  have hg : w.grownBy (w.setCell ⟨gS, i, none⟩ (.int .i64 v)) (some gS) := grown_set (grownBy_refl w _) i _
  exact ⟨h.hb.setCell (p := ⟨gS, i, none⟩) h.old.1 _, h.hC, (hg.cell_far ⟨gn, 0, none⟩ h.lt.2.1 (by simp; omega)).trans h.cn, db_grown h.cd hg n6, (hg.cell_far ⟨gc, 0, none⟩ h.lt.1 (by simp; omega)).trans h.cc,
    (hg.cell_far ⟨gf, 0, none⟩ h.lt.2.2 (by simp; omega)).trans h.cf, h.aS.setz i v, h.aM.far (p := ⟨gS, i, none⟩) (by show gM ≠ gS; omega) _,
    ⟨Nat.lt_of_lt_of_le h.lt.1 hg.size, Nat.lt_of_lt_of_le h.lt.2.1 hg.size, Nat.lt_of_lt_of_le h.lt.2.2 hg.size⟩, h.old, h.ne⟩
end

def DrPost (gc gn gd gf gS gM n cs cm cc : Nat) (C : Option Addr) (w0 : World) (code : List Int) (i : Nat) (S : Nat → Int) (b : Bool) (r : Option (List Int)) (e : Ending) (w' : World) : Prop :=
  ∃ S' M', e = .returned (.bool b) ∧ Scn gc gn gd gf gS gM n cs cm cc C w0 code w' S' M' ∧ (∀ x, M' x < 1000000) ∧ (∀ j, j < i → S' j = S j) ∧ ∀ l, r = some l → lstI n S' = l ∧ lstN (4 * n) M' = mkM code l

theorem enters_drawn : ∀ (args : Array Value) (W : World), (callFunc 51 args).run Try.prog W = .ok (.enter 51 args) W := fun _ _ => by kernel_rfl

end Go.Proofs.Ytambhopkacgddaa

/- Plain mathematics: the diagram of a code is one strand. -/
namespace Go.Proofs.Ytambhopkacgddaa
open Go.RowKit

theorem srch_out {code : List Int} {k : Nat} : ∀ {p l : List Int}, srch code k p = some l → l.length = p.length + k ∧ validB l (mkM code l) 0 = true ∧ (∀ j, j < p.length → l.getD j 0 = p.getD j 0) := by
  induction k with
  | zero =>
    intro p l h
    have h' : (if validB p (mkM code p) 0 = true then some p else none) = some l := h
    split at h'
    · rename_i q
      injection h' with h'
      subst h'
      exact ⟨rfl, q, fun _ _ => rfl⟩
    · cases h'
  | succ k ih =>
    intro p l h
    have hk : ∀ v, srch code k (p ++ [v]) = some l → l.length = p.length + (k + 1) ∧ validB l (mkM code l) 0 = true ∧ (∀ j, j < p.length → l.getD j 0 = p.getD j 0) := fun v hv => by
      obtain ⟨h1, h2, h3⟩ := ih hv
      rw [List.length_append] at h1
      refine ⟨by simp at h1; omega, h2, fun j hj => ?_⟩
      rw [h3 j (by rw [List.length_append]; omega), List.getD, List.getD, List.getElem?_append_left hj]
    have h' : (match srch code k (p ++ [1]) with | some l => some l | none => srch code k (p ++ [-1])) = some l := h
    cases q : srch code k (p ++ [1]) with
    | some l' => rw [q] at h'; injection h' with h'; subst h'; exact hk 1 q
    | none => rw [q] at h'; exact hk (-1) h'

theorem pos_ex {code : List Int} (h : dvB code = true) {n p : Nat} (hn : code.length = n) (hp : p < 2 * n) : ∃ i, i < n ∧ (p = ovN code i ∨ p = unN code i) := by
  rcases (show p % 2 = 0 ∨ p % 2 = 1 by omega) with e | e
  · refine ⟨p / 2, by omega, ?_⟩
    unfold ovN unN
    split <;> omega
  · obtain ⟨i, hi, q⟩ := (dhalf_perm h).hit (by rw [hn]; omega : p / 2 < code.length)
    refine ⟨i, by omega, ?_⟩
    unfold ovN unN
    rw [q]
    split <;> omega
theorem sg_cases {s : List Int} (hs : sgnsB s = true) {i : Nat} (hi : i < s.length) : s.getD i 0 = 1 ∨ s.getD i 0 = -1 := by
  have := (sgnsB_iff s).1 hs i hi
  unfold sgB at this
  simpa using this
theorem slot_out {s : List Int} (hs : sgnsB s = true) {i : Nat} (hi : i < s.length) : outB s (4 * i + soN (s.getD i 0)) = true ∧ outB s (trn (4 * i + soN (s.getD i 0)) 2) = false := by
  rcases sg_cases hs hi with e | e
  · rw [e, show soN 1 = 1 from rfl, show trn (4 * i + 1) 2 = 4 * i + 3 by unfold trn; omega]
    unfold outB
    rw [show (4 * i + 1) % 4 = 1 by omega, show (4 * i + 1) / 4 = i by omega, show (4 * i + 3) % 4 = 3 by omega, show (4 * i + 3) / 4 = i by omega, e]
    exact ⟨rfl, rfl⟩
  · rw [e, show soN (-1) = 3 from rfl, show trn (4 * i + 3) 2 = 4 * i + 1 by unfold trn; omega]
    unfold outB
    rw [show (4 * i + 1) % 4 = 1 by omega, show (4 * i + 1) / 4 = i by omega, show (4 * i + 3) % 4 = 3 by omega, show (4 * i + 3) / 4 = i by omega, e]
    exact ⟨rfl, rfl⟩
theorem two_out (s : List Int) (i : Nat) : outB s (4 * i + 2) = true ∧ outB s (trn (4 * i + 2) 2) = false := by
  unfold outB
  rw [show (4 * i + 2) % 4 = 2 by omega, show trn (4 * i + 2) 2 % 4 = 0 by unfold trn; omega]
  exact ⟨rfl, rfl⟩

section
variable {code s : List Int} {n : Nat}
theorem ex_out (h : dvB code = true) (hn : code.length = n) (hs : sgnsB s = true) (hl : s.length = n) {p : Nat} (hp : p < 2 * n) : outB s (exN code s n p) = true ∧ outB s (trn (exN code s n p) 2) = false ∧ exN code s n p < 4 * n := by
  obtain ⟨i, hi, e | e⟩ := pos_ex h hn hp
  · have := (exN_at s h (k := n) (i := i) hi (by omega)).1
    rw [e, this]
    have h2 := slot_out hs (i := i) (by omega)
    have := soN_cases (s.getD i 0)
    exact ⟨h2.1, h2.2, by omega⟩
  · have := (exN_at s h (k := n) (i := i) hi (by omega)).2
    rw [e, this]
    have h2 := two_out s i
    exact ⟨h2.1, h2.2, by omega⟩
theorem ex_inj (h : dvB code = true) (hn : code.length = n) {p q : Nat} (hp : p < 2 * n) (hq : q < 2 * n) (e : exN code s n p = exN code s n q) : p = q := by
  obtain ⟨i, hi, ei⟩ := pos_ex h hn hp
  obtain ⟨j, hj, ej⟩ := pos_ex h hn hq
  have a := exN_at s h (k := n) (i := i) hi (by omega)
  have b := exN_at s h (k := n) (i := j) hj (by omega)
  have ca := soN_cases (s.getD i 0)
  have cb := soN_cases (s.getD j 0)
  have hij : i = j := by
    rcases ei with ei | ei <;> rcases ej with ej | ej <;> rw [ei, ej] at e <;> simp only [a.1, a.2, b.1, b.2] at e <;> omega
  subst hij
  rcases ei with ei | ei <;> rcases ej with ej | ej
  · omega
  · rw [ei, ej, a.1, a.2] at e; omega
  · rw [ei, ej, a.1, a.2] at e; omega
  · omega
theorem ex_all (h : dvB code = true) (hn : code.length = n) (_hs : sgnsB s = true) (hl : s.length = n) {x : Nat} (hx : x < 4 * n) (ho : outB s x = true) : ∃ p, p < 2 * n ∧ exN code s n p = x := by
  have a := exN_at s h (k := n) (i := x / 4) (by omega) (by omega)
  obtain ⟨b1, b2, _⟩ := ov_lt h (i := x / 4) (by omega)
  rw [hn] at b1 b2
  have hr : x % 4 = 0 ∨ x % 4 = 1 ∨ x % 4 = 2 ∨ x % 4 = 3 := by omega
  unfold outB at ho
  rcases hr with e | e | e | e
  · rw [e] at ho; simp at ho
  · rw [e] at ho
    have h1 : s.getD (x / 4) 0 = 1 := by simpa using ho
    refine ⟨_, b1, ?_⟩
    rw [a.1, h1]
    show 4 * (x / 4) + 1 = x
    omega
  · exact ⟨_, b2, by rw [a.2]; omega⟩
  · rw [e] at ho
    have h1 : s.getD (x / 4) 0 = -1 := by simpa using ho
    refine ⟨_, b1, ?_⟩
    rw [a.1, h1]
    show 4 * (x / 4) + 3 = x
    omega
/-- A passage's way out is mated with the next one's way in. -/
theorem jn_at {E : Nat → Nat} {L : Nat} {M : Nat → Nat} (hi : ∀ p q, p < L → q < L → E p = E q → p = q) (ho : ∀ p q, p < L → q < L → E p ≠ trn (E q) 2) (hL : 0 < L) (K : Nat) (hK : K ≤ L) {k : Nat} (hk : k < K) : jnN E L K M (E k) = trn (E ((k + 1) % L)) 2 := by
  induction K with
  | zero => omega
  | succ K ih =>
    show upd (upd _ _ _) _ _ (E k) = _
    rw [upd_other _ _ _ _ (ho k _ (by omega) (Nat.mod_lt _ hL))]
    by_cases e : k = K
    · subst e; rw [upd_same]
    · rw [upd_other _ _ _ _ (fun q => e (hi k K (by omega) (by omega) q))]
      exact ih (by omega) (by omega)
theorem mkM_step (h : dvB code = true) (hn : code.length = n) (hs : sgnsB s = true) (hl : s.length = n) {k : Nat} (hk : k < 2 * n) : fs (matesOf (mkM code s)) (exN code s n k) = exN code s n ((k + 1) % (2 * n)) := by
  have hlt := (ex_out h hn hs hl hk).2.2
  have hj := jn_at (E := exN code s n) (L := 2 * n) (M := fun _ => 0) (fun p q hp hq e => ex_inj h hn hp hq e)
    (fun p q hp hq e => by
      have h1 := (ex_out h hn hs hl hp).1
      rw [e, (ex_out h hn hs hl hq).2.1] at h1
      cases h1) (by omega) (2 * n) (Nat.le_refl _) hk
  have hm : matesOf (mkM code s) (exN code s n k) = trn (exN code s n ((k + 1) % (2 * n))) 2 := by
    unfold matesOf mt mkM
    rw [hn, lstN_get hlt, hj]
    rfl
  show trn (matesOf (mkM code s) (exN code s n k)) 2 = _
  rw [hm, trn_two]
theorem mk_it (h : dvB code = true) (hn : code.length = n) (hs : sgnsB s = true) (hl : s.length = n) (k : Nat) (hk : k < 2 * n) : it (fs (matesOf (mkM code s))) k (exN code s n 0) = exN code s n k := by
  induction k with
  | zero => rfl
  | succ k ih =>
    show fs _ (it _ k _) = _
    rw [ih (by omega), mkM_step h hn hs hl (by omega), Nat.mod_eq_of_lt hk]
theorem mk_one {lp : Int} (h : dvB code = true) (hn : code.length = n) (hl : s.length = n) (hv : validB s (mkM code s) lp = true) : (strandsM s (mkM code s) lp).length = 1 := by
  have F := bk_facts hv
  have hs := F.sg
  have hlm := F.lm
  rw [hl] at hlm
  have hpos : 0 < n := by have := (dvB_iff code).1 h; omega
  unfold strandsM
  rw [if_pos hv, cycL_len]
  have hx0 := ex_out h hn hs hl (p := 0) (by omega)
  have hall : ∀ a, a ∈ reprs (fs (matesOf (mkM code s))) (mkM code s).length (outB s) → Orb (fs (matesOf (mkM code s))) a (exN code s n 0) := fun a ha => by
    obtain ⟨a1, a2⟩ := reprs_mem.1 ha
    have ao := ((F.p.sel_iff _ a1).1 a2).1
    obtain ⟨p, hp, e⟩ := ex_all h hn hs hl (by omega) ao
    have o : Orb (fs (matesOf (mkM code s))) (exN code s n 0) a := ⟨p, by rw [mk_it h hn hs hl p hp, e]⟩
    exact F.p.orb_symm (by omega) o
  obtain ⟨r0, hr0, _⟩ := reprs_ex F.p (by omega : exN code s n 0 < (mkM code s).length) hx0.1
  have hnd : (reprs (fs (matesOf (mkM code s))) (mkM code s).length (outB s)).Nodup := List.Pairwise.filter _ List.nodup_range
  have huq : ∀ a b, a ∈ reprs (fs (matesOf (mkM code s))) (mkM code s).length (outB s) → b ∈ reprs (fs (matesOf (mkM code s))) (mkM code s).length (outB s) → a = b := fun a b ha hb => reprs_uniq F.p ha hb (hall a ha) (hall b hb)
  generalize reprs (fs (matesOf (mkM code s))) (mkM code s).length (outB s) = R at hnd huq hr0
  match R, hnd, huq, hr0 with
  | [], _, _, hr0 => cases hr0
  | [_], _, _, _ => rfl
  | a :: b :: t, hnd, huq, _ =>
    have := huq a b (by simp) (by simp)
    rw [this] at hnd
    simp at hnd
end

end Go.Proofs.Ytambhopkacgddaa

/- Plain mathematics: how many rows have a given length, told by the members; a bijection keeps it. -/
namespace Go.Proofs.Ytambhopkacgddaa

/-- Rows of length k, times k: the members of rows of that length. -/
theorem rows_count (xss : List (List Nat)) (sz : Nat → Nat) (h : ∀ r ∈ xss, ∀ x ∈ r, sz x = r.length) (k : Nat) : xss.countP (fun r => r.length == k) * k = xss.flatten.countP (fun x => sz x == k) := by
  induction xss with
  | nil => simp
  | cons r rs ih =>
    have h1 := ih fun r' hr x hx => h r' (by simp [hr]) x hx
    have h2 : r.countP (fun x => sz x == k) = if r.length == k then r.length else 0 := by
      have e : ∀ x ∈ r, (sz x == k) = (r.length == k) := fun x hx => by rw [h r (by simp) x hx]
      rw [List.countP_congr (q := fun _ => r.length == k) fun x hx => by rw [e x hx]]
      cases r.length == k <;> simp
    rw [List.flatten_cons, List.countP_append, List.countP_cons, Nat.add_mul, h1, h2]
    by_cases e : r.length = k
    · simp [e]; omega
    · have : (r.length == k) = false := by simp [e]
      simp [this]
/-- Two lists of rows whose members correspond, with the lengths of their rows, have as many rows of each length. -/
theorem rows_alike {xss yss : List (List Nat)} {sz sz' : Nat → Nat} {t : Nat → Nat} (h : ∀ r ∈ xss, ∀ x ∈ r, sz x = r.length) (h' : ∀ r ∈ yss, ∀ x ∈ r, sz' x = r.length) (hp : yss.flatten.Perm (xss.flatten.map t))
    (ht : ∀ x ∈ xss.flatten, sz' (t x) = sz x) (hx : ∀ r ∈ xss, r ≠ []) (hy : ∀ r ∈ yss, r ≠ []) (k : Nat) : xss.countP (fun r => r.length == k) = yss.countP (fun r => r.length == k) := by
  by_cases hk : k = 0
  · subst hk
    have z : ∀ zss : List (List Nat), (∀ r ∈ zss, r ≠ []) → zss.countP (fun r => r.length == 0) = 0 := fun zss hz => by
      rw [List.countP_eq_zero]
      intro r hr e
      exact hz r hr (by simpa using e)
    rw [z xss hx, z yss hy]
  · have h1 := rows_count xss sz h k
    have h2 := rows_count yss sz' h' k
    rw [hp.countP_eq, List.countP_map] at h2
    have h3 : List.countP ((fun x => sz' x == k) ∘ t) xss.flatten = xss.flatten.countP (fun x => sz x == k) := List.countP_congr fun x hx => by
      simp [ht x hx]
    rw [h3, ← h1] at h2
    exact (Nat.eq_of_mul_eq_mul_right (by omega) h2).symm
theorem length_alike {xss yss : List (List Nat)} (h : ∀ k, xss.countP (fun r => r.length == k) = yss.countP (fun r => r.length == k)) : xss.length = yss.length := by
  have hp : (xss.map List.length).Perm (yss.map List.length) := List.perm_iff_count.2 fun k => by
    have e : ∀ zss : List (List Nat), (zss.map List.length).count k = zss.countP (fun r => r.length == k) := fun zss => by
      rw [List.count, List.countP_map]; rfl
    rw [e, e, h k]
  have := hp.length_eq
  simpa using this

/-- A bijection of the numbers below N rearranges them. -/
theorem Perm.range {t : Nat → Nat} {N : Nat} (q : Perm t N) : ((List.range N).map t).Perm (List.range N) := by
  refine (List.perm_ext_iff_of_nodup ?_ List.nodup_range).2 fun x => ?_
  · refine List.pairwise_map.2 (List.Pairwise.imp_of_mem (R := (· ≠ ·)) (fun {a b} ha hb hab e => hab ?_) List.nodup_range)
    exact q.inj a b (by simpa using ha) (by simpa using hb) e
  · simp only [List.mem_map, List.mem_range]
    constructor
    · rintro ⟨y, hy, rfl⟩; exact q.lt y hy
    · intro hx
      obtain ⟨r, _, e⟩ := q.returns hx
      exact ⟨it t r x, q.it_lt hx r, e⟩
theorem Perm.onto {t : Nat → Nat} {N : Nat} (q : Perm t N) {x : Nat} (hx : x < N) : ∃ y, y < N ∧ t y = x := by
  obtain ⟨r, _, e⟩ := q.returns hx
  exact ⟨it t r x, q.it_lt hx r, e⟩
theorem filter_map_perm {t : Nat → Nat} {N : Nat} (q : Perm t N) {p p' : Nat → Bool} (hp : ∀ x, x < N → p' (t x) = p x) : ((List.range N).filter p').Perm (((List.range N).filter p).map t) := by
  have h1 := q.range.symm.filter p'
  rw [List.filter_map] at h1
  have h2 : (List.range N).filter (p' ∘ t) = (List.range N).filter p := List.filter_congr fun x hx => hp x (by simpa using hx)
  rw [h2] at h1
  exact h1

theorem it_conj {f g t : Nat → Nat} {N : Nat} (q : Perm f N) (hg : ∀ x, x < N → g (t x) = t (f x)) {x : Nat} (hx : x < N) (i : Nat) : it g i (t x) = t (it f i x) := by
  induction i with
  | zero => rfl
  | succ i ih => show g (it g i (t x)) = t (f (it f i x)); rw [ih, hg _ (q.it_lt hx i)]
theorem per_unique {f : Nat → Nat} {N h k : Nat} (q : Perm f N) (hh : h < N) (h0 : 0 < k) (h1 : it f k h = h) (h2 : ∀ i, 0 < i → i < k → it f i h ≠ h) : per f N h = k := by
  have hp := q.per_spec hh
  have := per_pos f N h
  rcases Nat.lt_trichotomy (per f N h) k with e | e | e
  · exact absurd hp.1 (h2 _ this e)
  · exact e
  · exact absurd h1 (hp.2.2 k h0 e)
theorem per_conj {f g t : Nat → Nat} {N : Nat} (qf : Perm f N) (qg : Perm g N) (qt : Perm t N) (hg : ∀ x, x < N → g (t x) = t (f x)) {x : Nat} (hx : x < N) : per g N (t x) = per f N x := by
  have hp := qf.per_spec hx
  refine per_unique qg (qt.lt x hx) (per_pos f N x) (by rw [it_conj qf hg hx, hp.1]) fun i h0 hi e => ?_
  rw [it_conj qf hg hx] at e
  exact hp.2.2 i h0 hi (qt.inj _ _ (qf.it_lt hx i) hx e)
theorem per_orb {f : Nat → Nat} {N x y : Nat} (q : Perm f N) (hx : x < N) (o : Orb f x y) : per f N y = per f N x := by
  obtain ⟨i, rfl⟩ := o
  have hp := q.per_spec hx
  have back : ∀ k, it f k (it f i x) = it f i (it f k x) := fun k => by rw [← it_add, ← it_add, Nat.add_comm]
  refine per_unique q (q.it_lt hx i) (per_pos f N x) (by rw [back, hp.1]) fun k h0 hk e => ?_
  rw [back] at e
  exact hp.2.2 k h0 hk (q.it_inj (q.it_lt hx k) hx i e)
/-- The cycles as rows of numbers. -/
def cycN (f : Nat → Nat) (N : Nat) (p : Nat → Bool) : List (List Nat) := (reprs f N p).map (cyc f N)
theorem cycN_size {f : Nat → Nat} {N : Nat} {p : Nat → Bool} (q : Perm f N) : ∀ r ∈ cycN f N p, ∀ x ∈ r, per f N x = r.length := by
  intro r hr x hx
  obtain ⟨h, hh, rfl⟩ := List.mem_map.1 hr
  have h1 := (reprs_mem.1 hh).1
  rw [per_orb q h1 ((q.mem_cyc h1 x).1 hx)]
  simp [cyc]
theorem cycN_ne {f : Nat → Nat} {N : Nat} {p : Nat → Bool} : ∀ r ∈ cycN f N p, r ≠ [] := by
  intro r hr e
  obtain ⟨h, _, rfl⟩ := List.mem_map.1 hr
  have := per_pos f N h
  have hl := congrArg List.length e
  simp [cyc] at hl
  omega
theorem cycN_lens (f : Nat → Nat) (N : Nat) (p : Nat → Bool) : (cycN f N p).map List.length = (cycL f N p N).map List.length := by
  rw [cycL_reprs]; unfold cycN
  rw [List.map_map, List.map_map]
  exact List.map_congr_left fun r _ => by simp [cyc, itl]
/-- Conjugate permutations have as many cycles of each length. -/
theorem cycN_conj {f g t : Nat → Nat} {N : Nat} {p p' : Nat → Bool} (qf : Perm f N) (qg : Perm g N) (qt : Perm t N) (hg : ∀ x, x < N → g (t x) = t (f x)) (hp : ∀ x, x < N → p' (t x) = p x) (cf : ClosedN f N p) (cg : ClosedN g N p') (k : Nat) :
    (cycN f N p).countP (fun r => r.length == k) = (cycN g N p').countP (fun r => r.length == k) :=
  rows_alike (t := t) (cycN_size qf) (cycN_size qg) ((flatN_perm qg cg).trans ((filter_map_perm qt hp).trans ((flatN_perm qf cf).symm.map t)))
    (fun _ hx => per_conj qf qg qt hg ((mem_flatN qf cf).1 hx).1) cycN_ne cycN_ne k
theorem reprs_conj {f g t : Nat → Nat} {N : Nat} {p p' : Nat → Bool} (qf : Perm f N) (qg : Perm g N) (qt : Perm t N) (hg : ∀ x, x < N → g (t x) = t (f x)) (hp : ∀ x, x < N → p' (t x) = p x) (cf : ClosedN f N p) (cg : ClosedN g N p') :
    (reprs f N p).length = (reprs g N p').length := by
  have := length_alike (cycN_conj qf qg qt hg hp cf cg)
  simpa [cycN] using this

/-- How many rows have the length k. -/
def many (xss : List (List Int)) (k : Nat) : Nat := xss.countP (fun r => r.length == k)
theorem many_lens {xss : List (List Int)} {yss : List (List Nat)} (h : yss.map List.length = xss.map List.length) (k : Nat) : many xss k = yss.countP (fun r => r.length == k) := by
  have e1 : many xss k = (xss.map List.length).countP (fun n => n == k) := by rw [List.countP_map]; rfl
  have e2 : yss.countP (fun r => r.length == k) = (yss.map List.length).countP (fun n => n == k) := by rw [List.countP_map]; rfl
  rw [e1, e2, h]
theorem many_conj {f g t : Nat → Nat} {N : Nat} {p p' : Nat → Bool} (qf : Perm f N) (qg : Perm g N) (qt : Perm t N) (hg : ∀ x, x < N → g (t x) = t (f x)) (hp : ∀ x, x < N → p' (t x) = p x) (cf : ClosedN f N p) (cg : ClosedN g N p') (k : Nat) :
    many (cycL f N p N) k = many (cycL g N p' N) k := by
  rw [many_lens (cycN_lens f N p) k, many_lens (cycN_lens g N p') k]
  exact cycN_conj qf qg qt hg hp cf cg k

/-- The components as rows of numbers. -/
def membN (F : Nat → Nat) (n l : Nat) : List Nat := (List.range n).filter (fun b => F b == l)
def graphN (F : Nat → Nat) (n : Nat) : List (List Nat) := (roots F n).map (membN F n)
theorem graphN_lens (F : Nat → Nat) (n : Nat) : (graphN F n).map List.length = (graphL F n).map List.length := by
  unfold graphN graphL
  rw [List.map_map, List.map_map]
  exact List.map_congr_left fun r _ => by simp [membN, memb]
theorem mem_membN {F : Nat → Nat} {n l x : Nat} : x ∈ membN F n l ↔ x < n ∧ F x = l := by unfold membN; simp [List.mem_filter]
theorem graphN_flat {F : Nat → Nat} {n : Nat} (hle : ∀ b, F b ≤ b) (hid : ∀ b, F (F b) = F b) : (graphN F n).flatten.Perm (List.range n) := by
  refine (List.perm_ext_iff_of_nodup ?_ List.nodup_range).2 fun x => ?_
  · refine List.pairwise_flatten.2 ⟨fun l hl => ?_, ?_⟩
    · obtain ⟨r, _, rfl⟩ := List.mem_map.1 hl
      exact List.Pairwise.filter _ List.nodup_range
    · refine List.pairwise_map.2 (List.Pairwise.imp (R := (· ≠ ·)) (fun {a b} hab x hx y hy e => hab ?_) (roots_nodup F n))
      rw [← (mem_membN.1 hx).2, ← (mem_membN.1 hy).2, e]
  · unfold graphN
    simp only [List.mem_flatten, List.mem_map, List.mem_range]
    constructor
    · rintro ⟨l, ⟨r, _, rfl⟩, hx⟩
      exact (mem_membN.1 hx).1
    · intro hx
      refine ⟨_, ⟨F x, ?_, rfl⟩, mem_membN.2 ⟨hx, rfl⟩⟩
      unfold roots
      rw [List.mem_filter, List.mem_range]
      exact ⟨by have := hle x; omega, by simp [hid]⟩
theorem many_graph {F G t : Nat → Nat} {n : Nat} (hF : ∀ b, F b ≤ b) (hF2 : ∀ b, F (F b) = F b) (hG : ∀ b, G b ≤ b) (hG2 : ∀ b, G (G b) = G b) (qt : Perm t n) (h : ∀ x y, x < n → y < n → (F x = F y ↔ G (t x) = G (t y))) (k : Nat) :
    many (graphL F n) k = many (graphL G n) k := by
  rw [many_lens (graphN_lens F n) k, many_lens (graphN_lens G n) k]
  have sz : ∀ (F : Nat → Nat), ∀ r ∈ graphN F n, ∀ x ∈ r, (membN F n (F x)).length = r.length := fun F r hr x hx => by
    obtain ⟨l, _, rfl⟩ := List.mem_map.1 hr
    rw [(mem_membN.1 hx).2]
  have ne : ∀ (F : Nat → Nat), ∀ r ∈ graphN F n, r ≠ [] := fun F r hr e => by
    obtain ⟨l, hl, rfl⟩ := List.mem_map.1 hr
    obtain ⟨h1, h2⟩ := roots_lt hl
    have : l ∈ membN F n l := mem_membN.2 ⟨h1, h2⟩
    rw [e] at this; cases this
  refine rows_alike (t := t) (sz := fun x => (membN F n (F x)).length) (sz' := fun x => (membN G n (G x)).length) (sz F) (sz G) ((graphN_flat hG hG2).trans (qt.range.symm.trans ((graphN_flat hF hF2).symm.map t))) (fun x hx => ?_) (ne F) (ne G) k
  have hxn : x < n := by have := (graphN_flat hF hF2).mem_iff.1 hx; simpa using this
  show (membN G n (G (t x))).length = (membN F n (F x)).length
  have h1 := filter_map_perm qt (p := fun b => F b == F x) (p' := fun b => G b == G (t x)) fun y hy => by
    rw [Bool.eq_iff_iff]
    simp only [beq_iff_eq]
    exact (h y x hy hxn).symm
  have := h1.length_eq
  rw [List.length_map] at this
  exact this

end Go.Proofs.Ytambhopkacgddaa

/- Plain mathematics: an order of the crossings, its inverse, the lists of the renumbered diagram. -/
namespace Go.Proofs.Ytambhopkacgddaa

def ordN (o : List Int) : Nat → Nat := fun i => (o.getD i 0).toNat
/-- The first k numbers lie in the range and differ. -/
structure OrdK (o : List Int) (n k : Nat) : Prop where
  rg : ∀ i, i < k → 0 ≤ o.getD i 0 ∧ o.getD i 0 < n
  ne : ∀ i j, i < j → j < k → o.getD i 0 ≠ o.getD j 0
def IsOrd (o : List Int) (n : Nat) : Prop := o.length = n ∧ OrdK o n n
theorem OrdK.zero (o : List Int) (n : Nat) : OrdK o n 0 := ⟨fun i hi => absurd hi (by omega), fun i j _ hj => absurd hj (by omega)⟩
theorem OrdK.succ {o : List Int} {n k : Nat} (h : OrdK o n k) (h1 : 0 ≤ o.getD k 0) (h2 : o.getD k 0 < n) (h3 : ∀ i, i < k → o.getD i 0 ≠ o.getD k 0) : OrdK o n (k + 1) :=
  ⟨fun i hi => by
    by_cases e : i = k
    · subst e; exact ⟨h1, h2⟩
    · exact h.rg i (by omega), fun i j hij hj => by
    by_cases e : j = k
    · subst e; exact h3 i hij
    · exact h.ne i j hij (by omega)⟩
theorem ordN_cast {o : List Int} {n k i : Nat} (h : OrdK o n k) (hi : i < k) : (ordN o i : Int) = o.getD i 0 ∧ ordN o i < n := by
  have := h.rg i hi
  unfold ordN; omega
theorem IsOrd.perm {o : List Int} {n : Nat} (h : IsOrd o n) : Perm (ordN o) n :=
  ⟨fun i hi => (ordN_cast h.2 hi).2, fun i j hi hj e => by
    have h1 := (ordN_cast h.2 hi).1
    have h2 := (ordN_cast h.2 hj).1
    rw [e] at h1
    rcases Nat.lt_trichotomy i j with k | k | k
    · exact absurd (h1.symm.trans h2) (h.2.ne i j k hj)
    · exact k
    · exact absurd (h2.symm.trans h1) (h.2.ne j i k hi)⟩

/-- The place of c among the first k. -/
def plcK (o : List Int) : Nat → Nat → Int
  | 0 => fun _ => -1
  | k + 1 => fun c => if c = ordN o k then (k : Int) else plcK o k c
theorem plcK_in {o : List Int} {n k i : Nat} (h : OrdK o n k) (hi : i < k) : plcK o k (ordN o i) = i := by
  induction k with
  | zero => omega
  | succ k ih =>
    show (if ordN o i = ordN o k then (k : Int) else plcK o k (ordN o i)) = i
    by_cases e : i = k
    · subst e; simp
    · have h1 := (ordN_cast h (i := i) (by omega)).1
      have h2 := (ordN_cast h (i := k) (by omega)).1
      have h3 := h.ne i k (by omega) (by omega)
      rw [if_neg (by omega)]
      exact ih ⟨fun j hj => h.rg j (by omega), fun a b hab hb => h.ne a b hab (by omega)⟩ (by omega)
theorem plcK_out {o : List Int} {k c : Nat} (h : ∀ i, i < k → ordN o i ≠ c) : plcK o k c = -1 := by
  induction k with
  | zero => rfl
  | succ k ih =>
    show (if c = ordN o k then (k : Int) else plcK o k c) = -1
    rw [if_neg fun e => h k (by omega) e.symm]
    exact ih fun i hi => h i (by omega)
theorem plcK_cases (o : List Int) (k c : Nat) : plcK o k c = -1 ∧ (∀ i, i < k → ordN o i ≠ c) ∨ ∃ i, i < k ∧ plcK o k c = i ∧ ordN o i = c := by
  induction k with
  | zero => exact .inl ⟨rfl, fun i hi => absurd hi (by omega)⟩
  | succ k ih =>
    by_cases e : c = ordN o k
    · refine .inr ⟨k, by omega, ?_, e.symm⟩
      show (if c = ordN o k then (k : Int) else plcK o k c) = k
      rw [if_pos e]
    · have e2 : plcK o (k + 1) c = plcK o k c := by
        show (if c = ordN o k then (k : Int) else plcK o k c) = plcK o k c
        rw [if_neg e]
      rw [e2]
      rcases ih with ⟨h1, h2⟩ | ⟨i, h1, h2, h3⟩
      · refine .inl ⟨h1, fun i hi => ?_⟩
        by_cases ei : i = k
        · subst ei; exact fun q => e q.symm
        · exact h2 i (by omega)
      · exact .inr ⟨i, by omega, h2, h3⟩

/-- The inverse. -/
def invN (o : List Int) (n c : Nat) : Nat := (plcK o n c).toNat
theorem invN_ord {o : List Int} {n i : Nat} (h : IsOrd o n) (hi : i < n) : invN o n (ordN o i) = i := by
  unfold invN; rw [plcK_in h.2 hi]; simp
theorem ord_invN {o : List Int} {n c : Nat} (h : IsOrd o n) (hc : c < n) : ordN o (invN o n c) = c ∧ invN o n c < n := by
  obtain ⟨i, hi, e⟩ := h.perm.onto hc
  rw [← e, invN_ord h hi]; exact ⟨rfl, hi⟩
theorem invN_cast {o : List Int} {n c : Nat} (h : IsOrd o n) (hc : c < n) : (invN o n c : Int) = plcK o n c := by
  obtain ⟨i, hi, e⟩ := h.perm.onto hc
  rw [← e, invN_ord h hi, plcK_in h.2 hi]
theorem invN_perm {o : List Int} {n : Nat} (h : IsOrd o n) : Perm (invN o n) n :=
  ⟨fun c hc => (ord_invN h hc).2, fun c d hc hd e => by rw [← (ord_invN h hc).1, ← (ord_invN h hd).1, e]⟩

/-- A list of n numbers that holds each below n is an order. -/
theorem isOrd_of_all {o : List Int} {n : Nat} (hl : o.length = n) (h : ∀ i, i < n → (i : Int) ∈ o) : IsOrd o n := by
  have hex : ∀ i, i < n → ∃ j, j < n ∧ o.getD j 0 = i := fun i hi => by
    obtain ⟨j, hj, e⟩ := List.getElem_of_mem (h i hi)
    exact ⟨j, by omega, by simp [List.getD, hj, e]⟩
  obtain ⟨t, ht⟩ : ∃ t : Nat → Nat, ∀ i, i < n → t i < n ∧ o.getD (t i) 0 = i := by
    refine ⟨fun i => if hi : i < n then (hex i hi).choose else 0, fun i hi => ?_⟩
    simp only [hi, dif_pos]
    exact (hex i hi).choose_spec
  have q : Perm t n := ⟨fun i hi => (ht i hi).1, fun i j hi hj e => by
    have h1 := (ht i hi).2
    have h2 := (ht j hj).2
    rw [e] at h1; omega⟩
  refine ⟨hl, ⟨fun j hj => ?_, fun i j hij hj e => ?_⟩⟩
  · obtain ⟨i, hi, e⟩ := q.onto hj
    have := (ht i hi).2
    rw [e] at this; omega
  · obtain ⟨a, ha, ea⟩ := q.onto (show i < n by omega)
    obtain ⟨b, hb, eb⟩ := q.onto hj
    have h1 := (ht a ha).2
    have h2 := (ht b hb).2
    rw [ea] at h1; rw [eb] at h2
    have : a = b := by omega
    rw [this] at ea; omega
theorem IsOrd.all {o : List Int} {n : Nat} (h : IsOrd o n) {i : Nat} (hi : i < n) : (i : Int) ∈ o := by
  obtain ⟨j, hj, e⟩ := h.perm.onto hi
  have h1 := (ordN_cast h.2 hj).1
  rw [e] at h1
  have hjl : j < o.length := by rw [h.1]; exact hj
  rw [h1]; exact getD_mem_int hjl

/-- The half-edge that the new half-edge x was. -/
def wasH (o : List Int) (x : Nat) : Nat := 4 * ordN o (x / 4) + x % 4
/-- The new half-edge that x becomes. -/
def newH (o : List Int) (n x : Nat) : Nat := 4 * invN o n (x / 4) + x % 4
def renS (s o : List Int) (n : Nat) : List Int := (List.range n).map fun i => s.getD (ordN o i) 0
def renM (m : Nat → Nat) (o : List Int) (n : Nat) : List Int := (List.range (4 * n)).map fun x => (newH o n (m (wasH o x)) : Int)
theorem renS_length (s o : List Int) (n : Nat) : (renS s o n).length = n := by simp [renS]
theorem renM_length (m : Nat → Nat) (o : List Int) (n : Nat) : (renM m o n).length = 4 * n := by simp [renM]
theorem renS_get {s o : List Int} {n i : Nat} (hi : i < n) : (renS s o n).getD i 0 = s.getD (ordN o i) 0 := by simp [renS, List.getD, hi]
theorem renM_get {m : Nat → Nat} {o : List Int} {n x : Nat} (hx : x < 4 * n) : (renM m o n).getD x 0 = (newH o n (m (wasH o x)) : Int) := by simp [renM, List.getD, hx]
theorem wasH_lt {o : List Int} {n x : Nat} (h : IsOrd o n) (hx : x < 4 * n) : wasH o x < 4 * n := by
  have := (ordN_cast h.2 (i := x / 4) (by omega)).2
  unfold wasH; omega
theorem newH_lt {o : List Int} {n x : Nat} (h : IsOrd o n) (hx : x < 4 * n) : newH o n x < 4 * n := by
  have := (ord_invN h (c := x / 4) (by omega)).2
  unfold newH; omega
theorem newH_was {o : List Int} {n x : Nat} (h : IsOrd o n) (hx : x < 4 * n) : newH o n (wasH o x) = x := by
  have h1 : wasH o x / 4 = ordN o (x / 4) := by unfold wasH; omega
  have h2 : wasH o x % 4 = x % 4 := by unfold wasH; omega
  unfold newH
  rw [h1, h2, invN_ord h (by omega)]; omega
theorem wasH_new {o : List Int} {n x : Nat} (h : IsOrd o n) (hx : x < 4 * n) : wasH o (newH o n x) = x := by
  have h1 : newH o n x / 4 = invN o n (x / 4) := by unfold newH; omega
  have h2 : newH o n x % 4 = x % 4 := by unfold newH; omega
  unfold wasH
  rw [h1, h2, (ord_invN h (c := x / 4) (by omega)).1]; omega
theorem newH_perm {o : List Int} {n : Nat} (h : IsOrd o n) : Perm (newH o n) (4 * n) :=
  ⟨fun x hx => newH_lt h hx, fun x y hx hy e => by rw [← wasH_new h hx, ← wasH_new h hy, e]⟩

end Go.Proofs.Ytambhopkacgddaa

/- Plain mathematics: a renumbered diagram is drawn on spheres as the given one is. -/
namespace Go.Proofs.Ytambhopkacgddaa

theorem conn_conj {m m' T t : Nat → Nat} {N : Nat} (hT : ∀ x, x < N → T x < N ∧ m' (T x) = T (m x) ∧ T x / 4 = t (x / 4)) (hm : ∀ x, x < N → m x < N) {a b : Nat} (h : Conn m N a b) : Conn m' N (t a) (t b) := by
  induction h with
  | refl => exact .refl _
  | step x hx _ ih =>
    obtain ⟨h1, h2, h3⟩ := hT x hx
    have h4 := (hT (m x) (hm x hx)).2.2
    rw [← h3] at ih
    have := Conn.step (m := m') (T x) h1 ih
    rw [h2, h4] at this
    exact this
  | back x hx _ ih =>
    obtain ⟨h1, h2, h3⟩ := hT x hx
    have h4 := (hT (m x) (hm x hx)).2.2
    rw [← h4, ← h2] at ih
    have := Conn.back (m := m') (T x) h1 ih
    rw [h3] at this
    exact this
theorem IsLab.iff {m : Nat → Nat} {N n : Nat} {F : Nat → Nat} (h : IsLab m N n F) {a b : Nat} (ha : a < n) (hb : b < n) : F a = F b ↔ Conn m N a b :=
  ⟨fun e => by
    have h1 := (h.1 a ha).2
    rw [e] at h1
    exact h1.trans (h.1 b hb).2.symm, h.conn⟩
theorem sel_closed {f : Nat → Nat} {N : Nat} {p : Nat → Bool} (q : Perm f N) (c : ClosedN f N p) {h : Nat} (hh : h < N) : sel f N p h = (fst f N h && p h) := by
  rw [Bool.eq_iff_iff, Bool.and_eq_true, q.sel_iff p hh, q.fst_iff hh]
  constructor
  · rintro ⟨h1, h2⟩
    refine ⟨fun h' hlt o => h2 h' hlt ?_ o, h1⟩
    obtain ⟨i, e⟩ := q.orb_symm (by omega) o
    rw [← e]; exact c.it q hh h1 i
  · rintro ⟨h1, h2⟩
    exact ⟨h2, fun h' hlt _ o => h1 h' hlt o⟩
theorem cntF_reprs {f F : Nat → Nat} {N l : Nat} (q : Perm f N) (c : ClosedN f N (fun h => F (h / 4) == l)) : cntF F f N N l = (reprs f N (fun h => F (h / 4) == l)).length := by
  unfold cntF reprs
  rw [List.countP_eq_length_filter]
  congr 1
  exact (List.filter_congr fun x hx => by rw [sel_closed q c (by simpa using hx)]).symm

section
variable {o : List Int} {n : Nat} {m m' : Nat → Nat}
/-- The mates of the renumbered diagram. -/
structure Ren (o : List Int) (n : Nat) (m m' : Nat → Nat) : Prop where
  ord : IsOrd o n
  inv : Invol m (4 * n)
  eq : ∀ x, x < 4 * n → m' x = newH o n (m (wasH o x))
theorem Ren.at (r : Ren o n m m') {x : Nat} (hx : x < 4 * n) : m' (newH o n x) = newH o n (m x) := by rw [r.eq _ (newH_lt r.ord hx), wasH_new r.ord hx]
theorem Ren.inv' (r : Ren o n m m') : Invol m' (4 * n) :=
  ⟨fun x hx => by rw [r.eq x hx]; exact newH_lt r.ord (r.inv.lt _ (wasH_lt r.ord hx)), fun x hx => by
    have h1 := r.inv.lt _ (wasH_lt r.ord hx)
    rw [r.eq x hx, r.at h1, r.inv.inv _ (wasH_lt r.ord hx), newH_was r.ord hx]⟩
theorem newH_trn (s x : Nat) : newH o n (trn x s) = trn (newH o n x) s := by
  have h1 : trn x s / 4 = x / 4 := trn_div x s
  have h2 : trn x s % 4 = (x % 4 + s) % 4 := by unfold trn; omega
  have h3 : newH o n x % 4 = x % 4 := by unfold newH; omega
  unfold newH at *
  rw [h1, h2]
  unfold trn
  rw [h3]; omega
theorem Ren.step (r : Ren o n m m') (s : Nat) {x : Nat} (hx : x < 4 * n) : trn (m' (newH o n x)) s = newH o n (trn (m x) s) := by rw [r.at hx, newH_trn]
theorem Ren.lab (r : Ren o n m m') {a b : Nat} (ha : a < n) (hb : b < n) : ufLab m (4 * n) a = ufLab m (4 * n) b ↔ ufLab m' (4 * n) (invN o n a) = ufLab m' (4 * n) (invN o n b) := by
  have qa := (ord_invN r.ord ha)
  have qb := (ord_invN r.ord hb)
  rw [(ufLab_isLab m (4 * n) n).iff ha hb, (ufLab_isLab m' (4 * n) n).iff qa.2 qb.2]
  constructor
  · exact conn_conj (T := newH o n) (fun x hx => ⟨newH_lt r.ord hx, r.at hx, by unfold newH; omega⟩) (fun x hx => r.inv.lt x hx)
  · intro h
    have := conn_conj (m := m') (m' := m) (T := wasH o) (t := ordN o) (fun x hx => ⟨wasH_lt r.ord hx, by
      rw [r.eq x hx, wasH_new r.ord (r.inv.lt _ (wasH_lt r.ord hx))], by unfold wasH; omega⟩) (fun x hx => r.inv'.lt x hx) h
    rw [qa.1, qb.1] at this
    exact this
theorem closed_lab {m : Nat → Nat} {n : Nat} (s l : Nat) : ClosedN (fun x => trn (m x) s) (4 * n) (fun h => ufLab m (4 * n) (h / 4) == l) := fun h hh e => by
  have := (ufLab_isLab m (4 * n) n).2 h hh
  simp only [trn_div, ← this]
  exact e
theorem Ren.sph (r : Ren o n m m') (h : sphB (ufLab m (4 * n)) (fun x => trn (m x) 3) (4 * n) n = true) : sphB (ufLab m' (4 * n)) (fun x => trn (m' x) 3) (4 * n) n = true := by
  rw [sphB_iff] at h ⊢
  intro c hc
  obtain ⟨a, ha, rfl⟩ := (invN_perm r.ord).onto hc
  have h0 := h a ha
  rw [cntF_reprs (r.inv.perm 3) (closed_lab 3 _)] at h0
  rw [cntF_reprs (r.inv'.perm 3) (closed_lab 3 _)]
  have e1 := reprs_conj (r.inv.perm 3) (r.inv'.perm 3) (newH_perm r.ord) (fun x hx => r.step 3 hx) (p := fun h => ufLab m (4 * n) (h / 4) == ufLab m (4 * n) a) (p' := fun h => ufLab m' (4 * n) (h / 4) == ufLab m' (4 * n) (invN o n a)) (fun x hx => by
    have e : newH o n x / 4 = invN o n (x / 4) := by unfold newH; omega
    rw [Bool.eq_iff_iff, e]
    simp only [beq_iff_eq]
    exact (r.lab (by omega) ha).symm) (closed_lab 3 _) (closed_lab 3 _)
  have e2 : cntV (ufLab m' (4 * n)) n (ufLab m' (4 * n) (invN o n a)) = cntV (ufLab m (4 * n)) n (ufLab m (4 * n) a) := by
    unfold cntV
    rw [List.countP_eq_length_filter, List.countP_eq_length_filter]
    have := (filter_map_perm (invN_perm r.ord) (p := fun c => ufLab m (4 * n) c == ufLab m (4 * n) a) (p' := fun c => ufLab m' (4 * n) c == ufLab m' (4 * n) (invN o n a)) fun x hx => by
      rw [Bool.eq_iff_iff]
      simp only [beq_iff_eq]
      exact (r.lab hx ha).symm).length_eq
    rw [List.length_map] at this
    exact this
  rw [← e1, e2]; exact h0
end

end Go.Proofs.Ytambhopkacgddaa
