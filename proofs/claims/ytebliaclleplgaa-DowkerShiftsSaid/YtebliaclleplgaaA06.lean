import Derived.Test.YtebliaclleplgaaA05
import Derived.Deep.LoopGhost
import Derived.Test.YtebliaclleplgaaA02
import Derived.Test.YtebliaclleplgaaA03
import Derived.Test.YtebliaclleplgaaA01
/- Walk: dowker.Valid. -/
namespace Go.Proofs.Ytebliaclleplgaa
open Go.RowKit

/-- Block g tells which absolute values the first k numbers have. -/
def SeenD (code : List Int) (k g : Nat) (w : World) : Prop := ∃ S : Nat → Bool, Arr w g 48 129 (bv S) ∧ ∀ x : Nat, x < 129 → (S x = true ↔ ∃ j, j < k ∧ szI (code.getD j 0) = (x : Int))

theorem okAt_no {code : List Int} {k : Nat} (h : okAt code k = false) (hk : k < code.length) : dvB code = false := by
  cases e : dvB code with
  | false => rfl
  | true => rw [((dvB_iff code).1 e).2.2 k hk] at h; cases h

set_option maxHeartbeats 3200000 in
set_option maxRecDepth 100000 in
theorem dvalid_r (r : Bool) (A : Option Addr) (n c : Nat) (code : List Int) (w : World) (hs : RI w A n code) (hn : n ≤ 9223372036854775807) (hI : inL code) (hr : r = dvB code) :
    Calls Try.prog 13 #[.slice A n c] w fun e w' => e = .returned (.bool r) ∧ Below w.heap.size w w' := by
  have hl := hs.1
  by_cases h0 : 1 ≤ n ∧ n ≤ 64
  · obtain ⟨h1, h64⟩ := h0
    obtain ⟨b, off, rfl, hb, hc⟩ := hs.2 (by omega)
    have HR := Lib.hid hr
    have HI := Lib.hid hI
    have HL := Lib.hid hl
    clear hr hI hl hs
    have hzv := fal129_run
    have hzn := fal129_ne
    have hn1 : ¬ (n : Int) < 1 := by omega
    have hn2 : (n : Int) ≤ 64 := by omega
    go_enter Try.func13, Try.ntmps13
    go_wp2
    try rw [fal129_eq]
    rw [fal129_def]
    have hb0 := below_alloc w (.cells (cellsN 129 (bv fun _ => false)) 48)
    have hA0 : Arr (w.alloc (.cells (cellsN 129 (bv fun _ => false)) 48)) w.heap.size 48 129 (bv fun _ => false) := Arr.new w _ _ _
    have hs0 : SeenD code 0 w.heap.size (w.alloc (.cells (cellsN 129 (bv fun _ => false)) 48)) := ⟨_, hA0, fun x _ => ⟨fun h => Bool.noConfusion h, fun ⟨_, h, _⟩ => absurd h (by omega)⟩⟩
    clear hA0 hzv hzn
    generalize w.alloc (.cells (cellsN 129 (bv fun _ => false)) 48) = wA at hs0 hb0
    go_loopw [6, 7, 18] (fun _ _ i wr => ∃ k : Nat, k ≤ n ∧ i = .int .i64 k ∧ Below w.heap.size w wr ∧ SeenD code k w.heap.size wr ∧ ∀ j, j < k → okAt code j = true) (fun _ _ i _ => n - (intOf i).toNat)
    case atStart => exact ⟨0, by omega, rfl, hb0, hs0, fun j hj => absurd hj (by omega)⟩
    case round =>
      obtain ⟨k, hk, rfl, hbr, hsr, hok⟩ := hrel
      have HOK := Lib.hid hok
      clear hok hs0 hb0
      by_cases hlt : k < n
      · obtain ⟨S, hA, hS⟩ := hsr
        have hcell : wr.cell? ⟨b, off + k, none⟩ = some (.int .i64 (code.getD k 0)) := (hbr.cell (p := ⟨b, off + k, none⟩) hb).trans (hc k hlt)
        have hkL : k < code.length := by rw [HL.out]; exact hlt
        have hIk := HI.out k
        have CE := Lib.hid (even_any (code.getD k 0) wr hIk.1 hIk.2)
        have hok1 := okAt_iff code k
        have hno := fun h => (HR.out.trans (okAt_no (code := code) (k := k) h hkL) : r = false)
        rw [HL.out] at hok1
        obtain ⟨x, hx⟩ : ∃ x, code.getD k 0 = x := ⟨_, rfl⟩
        obtain ⟨v, hv⟩ : ∃ v, szI x = v := ⟨_, rfl⟩
        have HSx : szI (code.getD k 0) = v := by rw [hx, hv]
        have HSX := Lib.hid HSx
        rw [HSx] at hok1
        rw [hx, hv] at CE
        rw [hx] at hcell hIk
        have HNO := Lib.hid hno
        have HOK1 := Lib.hid hok1
        have HS := Lib.hid hS
        have HA := Lib.hid hA
        clear hx hv HSx hno hok1 hS hA hkL
        have hk0 : (0 : Int) ≤ (k : Int) := Int.natCast_nonneg _
        have hk1 : (k : Int) < (n : Int) := by omega
        by_cases c1 : v < 2
        · have e : r = false := HNO.out (by
            cases q : okAt code k with
            | false => rfl
            | true => have := (HOK1.out.1 q).1; omega)
          have HE := Lib.hid e
          clear e
          go_wp2_with ((with_reducible refine CE.out.mono ?_); rintro e w1 ⟨rfl, rfl⟩)
          go_ret
          exact ⟨ret_bool HE.out.symm, hbr⟩
        · by_cases c2 : 2 * (n : Int) < v
          · have e : r = false := HNO.out (by
              cases q : okAt code k with
              | false => rfl
              | true => have := (HOK1.out.1 q).2.1; omega)
            have HE := Lib.hid e
            clear e
            go_wp2_with ((with_reducible refine CE.out.mono ?_); rintro e w1 ⟨rfl, rfl⟩)
            go_ret
            exact ⟨ret_bool HE.out.symm, hbr⟩
          · obtain ⟨u, rfl⟩ : ∃ u : Nat, v = u := ⟨v.toNat, by omega⟩
            have hu0 : (0 : Int) ≤ (u : Int) := Int.natCast_nonneg _
            have hu129 : u < 129 := by omega
            have hu1 : (u : Int) < 129 := by omega
            by_cases c3 : (u : Int) % 2 = 0
            · cases hSu : S u with
              | true =>
                obtain ⟨j, hj, ej⟩ := (HS.out u hu129).1 hSu
                have e : r = false := HNO.out (by
                  cases q : okAt code k with
                  | false => rfl
                  | true => exact absurd ej ((HOK1.out.1 q).2.2.2 j hj))
                have HE := Lib.hid e
                have hcS : wr.cell? ⟨w.heap.size, u, none⟩ = some (.bool true) := by rw [HA.out.cell u hu129]; show some (Value.bool (S u)) = _; rw [hSu]
                clear e hSu ej
                go_wp2_with ((with_reducible refine CE.out.mono ?_); rintro e w1 ⟨rfl, rfl⟩)
                go_ret
                exact ⟨ret_bool HE.out.symm, hbr⟩
              | false =>
                have hcS : wr.cell? ⟨w.heap.size, u, none⟩ = some (.bool false) := by rw [HA.out.cell u hu129]; show some (Value.bool (S u)) = _; rw [hSu]
                have hfS := HA.out.frozen u
                have hokk : okAt code k = true := HOK1.out.2 ⟨by omega, by omega, by omega, fun j hj ej => by
                  rw [(HS.out u hu129).2 ⟨j, hj, ej⟩] at hSu; cases hSu⟩
                have hs2 : SeenD code (k + 1) w.heap.size (wr.setCell ⟨w.heap.size, u, none⟩ (.bool true)) := by
                  refine ⟨_, HA.out.setb u true, fun x hx => ?_⟩
                  by_cases e : x = u
                  · subst e; simp only [if_pos]
                    exact ⟨fun _ => ⟨k, by omega, HSX.out⟩, fun _ => trivial⟩
                  · simp only [if_neg e]
                    refine (HS.out x hx).trans ⟨fun ⟨j, h1, h2⟩ => ⟨j, by omega, h2⟩, fun ⟨j, h1, h2⟩ => ⟨j, ?_, h2⟩⟩
                    by_cases ej : j = k
                    · subst ej; rw [HSX.out] at h2; omega
                    · omega
                have hall : ∀ j, j < k + 1 → okAt code j = true := fun j hj => by
                  by_cases e : j = k
                  · subst e; exact hokk
                  · exact HOK.out j (by omega)
                have HALL := Lib.hid hall
                have HS2 := Lib.hid hs2
                clear hall hs2 hokk hSu
                go_wp2_with ((with_reducible refine CE.out.mono ?_); rintro e w1 ⟨rfl, rfl⟩)
                go_roundw
                case rel => exact ⟨k + 1, by omega, by go_num, below_set hbr (Nat.le_refl _) _, HS2.out, HALL.out⟩
                case measure => simp [intOf]; omega
            · have e : r = false := HNO.out (by
                cases q : okAt code k with
                | false => rfl
                | true => exact absurd (HOK1.out.1 q).2.2.1 c3)
              have HE := Lib.hid e
              have c3' : (u : Int) % 2 = 1 := by omega
              clear e c3
              go_wp2_with ((with_reducible refine CE.out.mono ?_); rintro e w1 ⟨rfl, rfl⟩)
              go_ret
              exact ⟨ret_bool HE.out.symm, hbr⟩
      · obtain rfl : k = n := by omega
        have e : r = true := by
          rw [HR.out]
          exact (dvB_iff _).2 ⟨by rw [HL.out]; exact h1, by rw [HL.out]; exact h64, fun i hi => HOK.out i (by rw [← HL.out]; exact hi)⟩
        have HE := Lib.hid e
        clear e hlt hk
        go_wp2
        go_ret
        exact ⟨ret_bool HE.out.symm, hbr⟩
  · have e : r = false := by
      rw [hr]
      cases q : dvB code with
      | false => rfl
      | true => have := (dvB_iff _).1 q; omega
    have HE := Lib.hid e
    clear e hr hI hs hl
    by_cases h1 : n < 1
    · have h1' : (n : Int) < 1 := by omega
      clear h0
      go_enter Try.func13, Try.ntmps13
      go_wp2
      go_ret
      exact ⟨ret_bool HE.out.symm, Below.refl _ _⟩
    · have h1' : ¬ (n : Int) < 1 := by omega
      have h2' : 64 < (n : Int) := by omega
      clear h0
      go_enter Try.func13, Try.ntmps13
      go_wp2
      go_ret
      exact ⟨ret_bool HE.out.symm, Below.refl _ _⟩
theorem dvalid_any (A : Option Addr) (n c : Nat) (code : List Int) (w : World) (hs : RI w A n code) (hn : n ≤ 9223372036854775807) (hI : inL code) :
    Calls Try.prog 13 #[.slice A n c] w fun e w' => e = .returned (.bool (dvB code)) ∧ Below w.heap.size w w' := dvalid_r _ A n c code w hs hn hI rfl

end Go.Proofs.Ytebliaclleplgaa

/- Words for memory: a store into one row leaves the others as they were. -/
namespace Go.Proofs.Ytebliaclleplgaa
open Go.RowKit

theorem OI.set_ {w : World} {B g n cap : Nat} {xs : List Int} (h : OI w B (.slice (some ⟨g, 0, none⟩) n cap) xs) (hl : xs.length = n) (j : Nat) (z : Int) :
    OI (w.setCell ⟨g, j, none⟩ (.int .i64 z)) B (.slice (some ⟨g, 0, none⟩) n cap) (xs.set j z) ∧ w.grownBy (w.setCell ⟨g, j, none⟩ (.int .i64 z)) (some g) := by
  subst hl
  have := World.ownsRow.stored h j (.int .i64 z)
  refine ⟨?_, this.2⟩
  unfold OI
  simpa [ints, List.map_set] using this.1

theorem OI.apart_lt {w : World} {B : Nat} {v : Value} {xs : List Int} (h : OI w B v xs) (row : Option Nat) (hr : ∀ g, row = some g → g < B) : v.ownBlock = none ∨ v.ownBlock ≠ row := by
  cases hv : v.ownBlock with
  | none => exact .inl rfl
  | some g =>
    refine .inr fun e => ?_
    have h1 := (World.ownsRow.lt h g hv).1
    have h2 := hr g e.symm
    omega

theorem ownRow.apart_lt {w : World} {B : Nat} {e : TypeId} {v : Value} {vs : List Value} (h : ownRow w B e v vs) (row : Option Nat) (hr : ∀ g, row = some g → g < B) : v.ownBlock = none ∨ v.ownBlock ≠ row := by
  cases hv : v.ownBlock with
  | none => exact .inl rfl
  | some g =>
    refine .inr fun e => ?_
    have h1 := (World.ownsRow.lt h g hv).1
    have h2 := hr g e.symm
    omega
theorem OO.grown_lt {w w' : World} {B : Nat} {v : Value} {xss : List (List Int)} (h : OO w B v xss) {row : Option Nat} (hg : w.grownBy w' row) (hr : ∀ g, row = some g → g < B) : OO w' B v xss := by
  obtain ⟨vs, h1, h2, h3⟩ := h
  exact ⟨vs, World.ownsRow.kept h1 hg (h1.apart_lt row hr), h2, fun i hi => (h3 i hi).grown hg ((h3 i hi).apart_lt row hr)⟩
theorem grown_set {w wr : World} {g : Nat} (h : w.grownBy wr (some g)) (j : Nat) (u : Value) : w.grownBy (wr.setCell ⟨g, j, none⟩ u) (some g) :=
  h.trans ⟨rfl, rfl, rfl, by simp [World.setCell], fun k _ hne => Below.heap_setCell wr ⟨g, j, none⟩ u k (by rintro rfl; exact hne rfl)⟩
theorem grown_below {W w w' : World} {B : Nat} (hb : Below B W w) {g : Nat} (hg : w.grownBy w' (some g)) (hB : B ≤ w.heap.size) (hgB : B ≤ g) : Below B W w' := hb.grown hg hB (fun k e => by injection e with e; omega)
/-- A row of a slice of slices of the call's own. -/
theorem OO.el {w : World} {B n c : Nat} {A : Option Addr} {xss : List (List Int)} (h : OO w B (.slice A n c) xss) (k : Nat) (hk : k < xss.length) :
    n = xss.length ∧ ∃ gA A' n' c', A = some ⟨gA, 0, none⟩ ∧ B ≤ gA ∧ gA < w.heap.size ∧ w.cell? ⟨gA, k, none⟩ = some (.slice A' n' c') ∧ OI w B (.slice A' n' c') (xss.getD k []) := by
  obtain ⟨vs, h1, h2, h3⟩ := h
  have hk' : k < vs.length := by omega
  have h8 := h3 k hk
  have h9 : vs.getD k undef = vs[k] := by simp [List.getD, hk']
  rw [h9] at h8
  have hsl : ∃ A' n' c', vs[k] = .slice A' n' c' := by
    rcases h8.form with ⟨e, _⟩ | ⟨g', cap', e, _⟩
    · exact ⟨_, _, _, e⟩
    · exact ⟨_, _, _, e⟩
  obtain ⟨A', n', c', e⟩ := hsl
  rcases h1.2 with ⟨h4, h5⟩ | ⟨g, cap, cur, h4, hB, hg, _⟩
  · omega
  · injection h4 with e1 e2 e3
    have hlt : g < w.heap.size := by
      rcases Nat.lt_or_ge g w.heap.size with hlt | hge
      · exact hlt
      · rw [Array.getElem?_eq_none hge] at hg; cases hg
    subst e1; subst e2; subst e3
    have h6 : w.cell? ⟨g, k, none⟩ = vs[k]? := World.ownsRow.cellAt h1 k (by omega)
    rw [e] at h8
    exact ⟨h2, g, A', n', c', rfl, hB, hlt, by rw [h6, List.getElem?_eq_getElem hk', e], h8⟩

end Go.Proofs.Ytebliaclleplgaa

/- Walk: the mates of a code's diagram. -/
namespace Go.Proofs.Ytebliaclleplgaa
open Go.RowKit

theorem opp_nat (x : Nat) (w : World) (hx : x ≤ 1000000) : Calls Try.prog 52 #[.int .i64 (x : Nat)] w fun e w' => e = .returned (.int .i64 (trn x 2 : Nat)) ∧ w = w' := by
  rw [← turnI_opp]; exact opposite_any _ w (by omega) (by omega)
theorem grownBy_refl (w : World) (row : Option Nat) : w.grownBy w row := ⟨rfl, rfl, rfl, Nat.le_refl _, fun _ _ _ => rfl⟩
theorem grownBy_trans {w w1 w2 : World} {g : Nat} (h : Below w.heap.size w w1) (_ : g < w.heap.size) (k : w1.grownBy w2 (some g)) : w.grownBy w2 (some g) :=
  ⟨k.os.trans h.os, k.tape.trans h.tape, k.output.trans h.output, Nat.le_trans h.size k.size, fun b hb hne => (k.block b (Nat.lt_of_lt_of_le hb h.size) hne).trans (h.block b hb)⟩
theorem grown_drew {w w' : World} {row : Option Nat} (h : w.grownBy w' row) : w.grownBy w'.drew row := ⟨h.os, h.tape, h.output, h.size, h.block⟩
def JoinPost (w : World) (gM nm : Nat) (M : Nat → Nat) (e : Ending) (w' : World) : Prop := e = .returned (.tuple #[]) ∧ w.grownBy w' (some gM) ∧ Arr w' gM 3 nm (iv M)

set_option maxHeartbeats 3200000 in
set_option maxRecDepth 100000 in
theorem join_any (A C : Option Addr) (n cs cc cm gM : Nat) (lp : Int) (code s : List Int) (M : Nat → Nat) (w : World) (hC : RI w C n code) (hA : RI w A n s) (h64 : n ≤ 64) (hI : inL code) (hv : dvB code = true) (hM : Arr w gM 3 (4 * n) (iv M)) :
    Calls Try.prog 44 #[dval A n cs (some ⟨gM, 0, none⟩) (4 * n) cm lp, .slice C n cc] w (JoinPost w gM (4 * n) (jnN (exN code s n) (2 * n) (2 * n) M)) := by
  have hpos : 0 < n := by have := (dvB_iff code).1 hv; have := hC.1; omega
  have hgM := hM.lt
  have hd := DB.new w A n cs (some ⟨gM, 0, none⟩) (4 * n) cm lp
  obtain ⟨d0, d1, d2, dlt⟩ := hd
  have CE := Lib.hid (exits_any A C n cs cc code s (w.alloc (dbox A n cs (some ⟨gM, 0, none⟩) (4 * n) cm lp)) (hC.alloc _) (hA.alloc _) h64 hI hv)
  have HE : Hid (∀ x, exN code s n x < 4 * n) := Lib.hid (fun x => by have := exN_lt code s n x; omega)
  obtain ⟨E, hE⟩ : ∃ E, exN code s n = E := ⟨_, rfl⟩
  rw [hE] at CE HE ⊢
  obtain ⟨L, hL⟩ : ∃ L, 2 * n = L := ⟨_, rfl⟩
  obtain ⟨nm, hnm⟩ : ∃ nm, 4 * n = nm := ⟨_, rfl⟩
  rw [hL] at CE ⊢
  rw [hnm] at HE hM d0 d1 d2 dlt CE ⊢
  have hL1 : 0 < L := by omega
  have hL2 : L ≤ 128 := by omega
  have hnm1 : nm ≤ 256 := by omega
  have HN4 : Hid (nm % 4 = 0) := Lib.hid (by omega)
  clear hE hL hnm hC hA hI hv
  have hb0 := below_alloc w (dbox A n cs (some ⟨gM, 0, none⟩) nm cm lp)
  have hM0 := hM.keep hb0
  have hL0 : (0 : Int) < (L : Int) := by omega
  have hL3 : (L : Int) ≤ 128 := by omega
  have hnm0 : (nm : Int) ≤ 256 := by omega
  go_enter Try.func44, Try.ntmps44
  go_wp2_with ((with_reducible refine CE.out.mono ?_); rintro e w1 ⟨rfl, hAE, hb1⟩; have e0 := (hb1.cell (p := ⟨w.heap.size, 0, none⟩) dlt).trans d0; have e1 := (hb1.cell (p := ⟨w.heap.size, 1, none⟩) dlt).trans d1; have e2 := (hb1.cell (p := ⟨w.heap.size, 2, none⟩) dlt).trans d2)
  have hM1 := hM0.keep hb1
  have hbw := below_step hb0 hb1
  have hwlt : w.heap.size < w1.heap.size := Nat.lt_of_lt_of_le dlt hb1.size
  have hsz1 : (w.alloc (dbox A n cs (some ⟨gM, 0, none⟩) nm cm lp)).heap.size = w.heap.size + 1 := by simp
  rw [hsz1] at hAE
  obtain ⟨gE, hgE⟩ : ∃ gE, w.heap.size + 1 = gE := ⟨_, rfl⟩
  have hgE2 : w.heap.size < gE := by omega
  rw [hgE] at hAE ⊢
  clear hsz1
  generalize hMM : jnN E L 0 M = M0
  have hMr : Arr w1 gM 3 nm (iv (jnN E L 0 M)) := hM1
  have hne1 : gE ≠ gM := by omega
  have hne2 : w.heap.size ≠ gM := by omega
  have HGE := Lib.hid hgE
  clear hgE hMM M0 hM1 hM0 d0 d1 d2 hb1 hb0 hM CE
  go_loopw [5, 6, 7, 14] (fun _ _ _ i wr => ∃ k : Nat, k ≤ L ∧ i = .int .i64 k ∧ w1.grownBy wr (some gM) ∧ Arr wr gM 3 nm (iv (jnN E L k M))) (fun _ _ _ i _ => L - (intOf i).toNat)
  case atStart => exact ⟨0, by omega, rfl, grownBy_refl _ _, hMr⟩
  case round =>
    obtain ⟨k, hk, rfl, hgr, hMk⟩ := hrel
    have hAr := hAE.grown hgr (by simp; omega)
    have x0 := (hgr.cell_far ⟨w.heap.size, 0, none⟩ hwlt (by simp; omega)).trans e0
    have x1 := (hgr.cell_far ⟨w.heap.size, 1, none⟩ hwlt (by simp; omega)).trans e1
    have x2 := (hgr.cell_far ⟨w.heap.size, 2, none⟩ hwlt (by simp; omega)).trans e2
    by_cases hlt : k < L
    · obtain ⟨q, hq⟩ : ∃ q, (k + 1) % L = q := ⟨_, rfl⟩
      have hqL : q < L := by rw [← hq]; exact Nat.mod_lt _ hL1
      have hqi : ((k : Int) + 1) % (L : Int) = (q : Int) := by rw [← hq]; simp
      have cE1 := hAr.cell k hlt
      have cE2 := hAr.cell q hqL
      have hstep : jnN E L (k + 1) M = upd (upd (jnN E L k M) (E k) (trn (E ((k + 1) % L)) 2)) (trn (E ((k + 1) % L)) 2) (E k) := rfl
      rw [hq] at hstep
      have ho1 := HE.out k
      have ho2 := HE.out q
      have ho3 : trn (E q) 2 < nm := by have := HE.out q; have := HN4.out; unfold trn; omega
      have CO := fun W => Lib.hid (opp_nat (E q) W (by omega))
      have cE1' : wr.cell? ⟨gE, k, none⟩ = some (.int .i64 (E k : Nat)) := cE1
      have cE2' : wr.cell? ⟨gE, q, none⟩ = some (.int .i64 (E q : Nat)) := cE2
      clear cE1 cE2 hq
      obtain ⟨o, hoo⟩ : ∃ o, E k = o := ⟨_, rfl⟩
      obtain ⟨i', hii⟩ : ∃ i', trn (E q) 2 = i' := ⟨_, rfl⟩
      obtain ⟨o2, ho22⟩ : ∃ o2, E q = o2 := ⟨_, rfl⟩
      rw [hoo] at cE1' ho1 hstep
      rw [hii] at ho3 hstep CO
      rw [ho22] at cE2' ho2 CO
      have hA2 : Arr ((wr.setCell ⟨gM, o, none⟩ (.int .i64 (i' : Nat))).setCell ⟨gM, i', none⟩ (.int .i64 (o : Nat))) gM 3 nm (iv (jnN E L (k + 1) M)) := by
        rw [hstep]; exact (hMk.seti _ _).seti _ _
      have f1 := hMk.frozen o
      have c1 := hMk.cell o ho1
      have f2 := (hMk.seti o i').frozen i'
      have c2 : (wr.setCell ⟨gM, o, none⟩ (.int .i64 (i' : Nat))).cell? ⟨gM, i', none⟩ = some (.int .i64 (upd (jnN E L k M) o i' i' : Nat)) := (hMk.seti o i').cell i' ho3
      have hg2 : w1.grownBy ((wr.setCell ⟨gM, o, none⟩ (.int .i64 (i' : Nat))).setCell ⟨gM, i', none⟩ (.int .i64 (o : Nat))) (some gM) := grown_set (grown_set hgr _ _) _ _
      have HA2 := Lib.hid hA2
      have HG2 := Lib.hid hg2
      clear hA2 hg2 hstep hoo hii ho22 hAr hMr hAE hgr e0 e1 e2
      have hk0 : (0 : Int) ≤ (k : Int) := Int.natCast_nonneg _
      have hk1 : (k : Int) < (L : Int) := by omega
      have hq0 : (0 : Int) ≤ (q : Int) := Int.natCast_nonneg _
      have hq1 : (q : Int) < (L : Int) := by omega
      have hL4 : ¬ (L : Int) = 0 := by omega
      have ho10 : (0 : Int) ≤ (o : Int) := Int.natCast_nonneg _
      have ho11 : (o : Int) < (nm : Int) := by omega
      have hi0 : (0 : Int) ≤ (i' : Int) := Int.natCast_nonneg _
      have hi1 : (i' : Int) < (nm : Int) := by omega
      go_wp2_with (go_at_call 52; ((with_reducible refine (CO _).out.mono ?_); rintro e w2 ⟨rfl, rfl⟩))
      go_region
      all_goals
        go_wp2
        go_roundw
        case rel => exact ⟨k + 1, by omega, by go_num, grown_drew HG2.out, HA2.out.drew⟩
        case measure => simp [intOf]; omega
    · obtain rfl : k = L := by omega
      clear hlt hk
      go_wp2
      go_end0
      exact ⟨rfl, grownBy_trans hbw (by omega) hgr, hMk⟩

end Go.Proofs.Ytebliaclleplgaa

/- Walk: the search for the signs of a code. -/
namespace Go.Proofs.Ytebliaclleplgaa
open Go.RowKit

/-- The first signs that begin with p and make the diagram valid. -/
def srch (code : List Int) : Nat → List Int → Option (List Int)
  | 0, p => if validB p (mkM code p) 0 = true then some p else none
  | k + 1, p => match srch code k (p ++ [1]) with
    | some l => some l
    | none => srch code k (p ++ [-1])

theorem ri_arr {w : World} {g n : Nat} {S : Nat → Int} (h : Arr w g 3 n (zv S)) : RI w (some ⟨g, 0, none⟩) n (lstI n S) :=
  ⟨lstI_length _ _, fun _ => ⟨g, 0, rfl, h.lt, fun j hj => by rw [lstI_get hj, Nat.zero_add]; exact h.cell j hj⟩⟩
theorem rn_arr {w : World} {g n : Nat} {M : Nat → Nat} (h : Arr w g 3 n (iv M)) : RI w (some ⟨g, 0, none⟩) n (lstN n M) :=
  ⟨lstN_length _ _, fun _ => ⟨g, 0, rfl, h.lt, fun j hj => by rw [lstN_get hj, Nat.zero_add]; exact h.cell j hj⟩⟩

/-- The variables of the search. -/
structure Scn (gc gn gd gf gS gM n cs cm cc : Nat) (C : Option Addr) (w0 : World) (code : List Int) (w : World) (S : Nat → Int) (M : Nat → Nat) : Prop where
  hb : Below w0.heap.size w0 w
  hC : RI w0 C n code
  cn : w.cell? ⟨gn, 0, none⟩ = some (.int .i64 n)
  cd : DB w gd (some ⟨gS, 0, none⟩) n cs (some ⟨gM, 0, none⟩) (4 * n) cm 0
  cc : w.cell? ⟨gc, 0, none⟩ = some (.slice C n cc)
  cf : w.cell? ⟨gf, 0, none⟩ = some (.func (.func 43) #[] #[.pointer (some ⟨gn, 0, none⟩), .pointer (some ⟨gd, 0, none⟩), .pointer (some ⟨gc, 0, none⟩), .pointer (some ⟨gf, 0, none⟩)])
  aS : Arr w gS 3 n (zv S)
  aM : Arr w gM 3 (4 * n) (iv M)
  lt : gc < w.heap.size ∧ gn < w.heap.size ∧ gf < w.heap.size
  old : w0.heap.size ≤ gS ∧ w0.heap.size ≤ gM
  ne : gS ≠ gM ∧ gc ≠ gS ∧ gc ≠ gM ∧ gn ≠ gS ∧ gn ≠ gM ∧ gd ≠ gS ∧ gd ≠ gM ∧ gf ≠ gS ∧ gf ≠ gM

section
variable {gc gn gd gf gS gM n cs cm cc : Nat} {C : Option Addr} {w0 : World} {code : List Int} {w : World} {S : Nat → Int} {M : Nat → Nat}
theorem Scn.keep {w' : World} (h : Scn gc gn gd gf gS gM n cs cm cc C w0 code w S M) (hb : Below w.heap.size w w') : Scn gc gn gd gf gS gM n cs cm cc C w0 code w' S M :=
  ⟨h.hb.trans (hb.mono h.hb.size), h.hC, (hb.cell (p := ⟨gn, 0, none⟩) h.lt.2.1).trans h.cn, h.cd.keep hb, (hb.cell (p := ⟨gc, 0, none⟩) h.lt.1).trans h.cc, (hb.cell (p := ⟨gf, 0, none⟩) h.lt.2.2).trans h.cf, h.aS.keep hb, h.aM.keep hb,
    ⟨Nat.lt_of_lt_of_le h.lt.1 hb.size, Nat.lt_of_lt_of_le h.lt.2.1 hb.size, Nat.lt_of_lt_of_le h.lt.2.2 hb.size⟩, h.old, h.ne⟩
theorem db_grown {w w' : World} {g k : Nat} {A : Option Addr} {ns cs : Nat} {B : Option Addr} {nm cm : Nat} {lp : Int} (h : DB w g A ns cs B nm cm lp) (hg : w.grownBy w' (some k)) (hne : g ≠ k) : DB w' g A ns cs B nm cm lp :=
  ⟨(hg.cell_far ⟨g, 0, none⟩ h.2.2.2 (by simp; omega)).trans h.1, (hg.cell_far ⟨g, 1, none⟩ h.2.2.2 (by simp; omega)).trans h.2.1, (hg.cell_far ⟨g, 2, none⟩ h.2.2.2 (by simp; omega)).trans h.2.2.1, Nat.lt_of_lt_of_le h.2.2.2 hg.size⟩
theorem Scn.joined {w' : World} {M' : Nat → Nat} (h : Scn gc gn gd gf gS gM n cs cm cc C w0 code w S M) (hg : w.grownBy w' (some gM)) (hM : Arr w' gM 3 (4 * n) (iv M')) : Scn gc gn gd gf gS gM n cs cm cc C w0 code w' S M' := by
  obtain ⟨n1, n2, n3, n4, n5, n6, n7, n8, n9⟩ := h.ne
  exact ⟨h.hb.grown hg h.hb.size (fun k e => by injection e with e; have := h.old.2; omega), h.hC, (hg.cell_far ⟨gn, 0, none⟩ h.lt.2.1 (by simp; omega)).trans h.cn, db_grown h.cd hg n7, (hg.cell_far ⟨gc, 0, none⟩ h.lt.1 (by simp; omega)).trans h.cc,
    (hg.cell_far ⟨gf, 0, none⟩ h.lt.2.2 (by simp; omega)).trans h.cf, h.aS.grown hg (by simp; omega), hM,
    ⟨Nat.lt_of_lt_of_le h.lt.1 hg.size, Nat.lt_of_lt_of_le h.lt.2.1 hg.size, Nat.lt_of_lt_of_le h.lt.2.2 hg.size⟩, h.old, h.ne⟩
theorem Scn.sign (h : Scn gc gn gd gf gS gM n cs cm cc C w0 code w S M) (i : Nat) (v : Int) : Scn gc gn gd gf gS gM n cs cm cc C w0 code (w.setCell ⟨gS, i, none⟩ (.int .i64 v)) (fun j => if j = i then v else S j) M := by
  obtain ⟨n1, n2, n3, n4, n5, n6, n7, n8, n9⟩ := h.ne
  have hg : w.grownBy (w.setCell ⟨gS, i, none⟩ (.int .i64 v)) (some gS) := grown_set (grownBy_refl w _) i _
  exact ⟨h.hb.setCell (p := ⟨gS, i, none⟩) h.old.1 _, h.hC, (hg.cell_far ⟨gn, 0, none⟩ h.lt.2.1 (by simp; omega)).trans h.cn, db_grown h.cd hg n6, (hg.cell_far ⟨gc, 0, none⟩ h.lt.1 (by simp; omega)).trans h.cc,
    (hg.cell_far ⟨gf, 0, none⟩ h.lt.2.2 (by simp; omega)).trans h.cf, h.aS.setz i v, h.aM.far (p := ⟨gS, i, none⟩) (by show gM ≠ gS; omega) _,
    ⟨Nat.lt_of_lt_of_le h.lt.1 hg.size, Nat.lt_of_lt_of_le h.lt.2.1 hg.size, Nat.lt_of_lt_of_le h.lt.2.2 hg.size⟩, h.old, h.ne⟩
end

def DrPost (gc gn gd gf gS gM n cs cm cc : Nat) (C : Option Addr) (w0 : World) (code : List Int) (i : Nat) (S : Nat → Int) (b : Bool) (r : Option (List Int)) (e : Ending) (w' : World) : Prop :=
  ∃ S' M', e = .returned (.bool b) ∧ Scn gc gn gd gf gS gM n cs cm cc C w0 code w' S' M' ∧ (∀ x, M' x < 1000000) ∧ (∀ j, j < i → S' j = S j) ∧ ∀ l, r = some l → lstI n S' = l ∧ lstN (4 * n) M' = mkM code l

theorem enters_drawn : ∀ (args : Array Value) (W : World), (callFunc 43 args).run Try.prog W = .ok (.enter 43 args) W := fun _ _ => by kernel_rfl

end Go.Proofs.Ytebliaclleplgaa

/- Plain mathematics: the diagram of a code is one strand. -/
namespace Go.Proofs.Ytebliaclleplgaa
open Go.RowKit

theorem srch_out {code : List Int} {k : Nat} : ∀ {p l : List Int}, srch code k p = some l → l.length = p.length + k ∧ validB l (mkM code l) 0 = true ∧ (∀ j, j < p.length → l.getD j 0 = p.getD j 0) := by
  induction k with
  | zero =>
    intro p l h
    have h' : (if validB p (mkM code p) 0 = true then some p else none) = some l := h
    split at h'
    · rename_i q
      injection h' with h'
      subst h'
      exact ⟨rfl, q, fun _ _ => rfl⟩
    · cases h'
  | succ k ih =>
    intro p l h
    have hk : ∀ v, srch code k (p ++ [v]) = some l → l.length = p.length + (k + 1) ∧ validB l (mkM code l) 0 = true ∧ (∀ j, j < p.length → l.getD j 0 = p.getD j 0) := fun v hv => by
      obtain ⟨h1, h2, h3⟩ := ih hv
      rw [List.length_append] at h1
      refine ⟨by simp at h1; omega, h2, fun j hj => ?_⟩
      rw [h3 j (by rw [List.length_append]; omega), List.getD, List.getD, List.getElem?_append_left hj]
    have h' : (match srch code k (p ++ [1]) with | some l => some l | none => srch code k (p ++ [-1])) = some l := h
    cases q : srch code k (p ++ [1]) with
    | some l' => rw [q] at h'; injection h' with h'; subst h'; exact hk 1 q
    | none => rw [q] at h'; exact hk (-1) h'

theorem pos_ex {code : List Int} (h : dvB code = true) {n p : Nat} (hn : code.length = n) (hp : p < 2 * n) : ∃ i, i < n ∧ (p = ovN code i ∨ p = unN code i) := by
  rcases (show p % 2 = 0 ∨ p % 2 = 1 by omega) with e | e
  · refine ⟨p / 2, by omega, ?_⟩
    unfold ovN unN
    split <;> omega
  · obtain ⟨i, hi, q⟩ := (dhalf_perm h).hit (by rw [hn]; omega : p / 2 < code.length)
    refine ⟨i, by omega, ?_⟩
    unfold ovN unN
    rw [q]
    split <;> omega
theorem sg_cases {s : List Int} (hs : sgnsB s = true) {i : Nat} (hi : i < s.length) : s.getD i 0 = 1 ∨ s.getD i 0 = -1 := by
  have := (sgnsB_iff s).1 hs i hi
  unfold sgB at this
  simpa using this
theorem slot_out {s : List Int} (hs : sgnsB s = true) {i : Nat} (hi : i < s.length) : outB s (4 * i + soN (s.getD i 0)) = true ∧ outB s (trn (4 * i + soN (s.getD i 0)) 2) = false := by
  rcases sg_cases hs hi with e | e
  · rw [e, show soN 1 = 1 from rfl, show trn (4 * i + 1) 2 = 4 * i + 3 by unfold trn; omega]
    unfold outB
    rw [show (4 * i + 1) % 4 = 1 by omega, show (4 * i + 1) / 4 = i by omega, show (4 * i + 3) % 4 = 3 by omega, show (4 * i + 3) / 4 = i by omega, e]
    exact ⟨rfl, rfl⟩
  · rw [e, show soN (-1) = 3 from rfl, show trn (4 * i + 3) 2 = 4 * i + 1 by unfold trn; omega]
    unfold outB
    rw [show (4 * i + 1) % 4 = 1 by omega, show (4 * i + 1) / 4 = i by omega, show (4 * i + 3) % 4 = 3 by omega, show (4 * i + 3) / 4 = i by omega, e]
    exact ⟨rfl, rfl⟩
theorem two_out (s : List Int) (i : Nat) : outB s (4 * i + 2) = true ∧ outB s (trn (4 * i + 2) 2) = false := by
  unfold outB
  rw [show (4 * i + 2) % 4 = 2 by omega, show trn (4 * i + 2) 2 % 4 = 0 by unfold trn; omega]
  exact ⟨rfl, rfl⟩

section
variable {code s : List Int} {n : Nat}
theorem ex_out (h : dvB code = true) (hn : code.length = n) (hs : sgnsB s = true) (hl : s.length = n) {p : Nat} (hp : p < 2 * n) : outB s (exN code s n p) = true ∧ outB s (trn (exN code s n p) 2) = false ∧ exN code s n p < 4 * n := by
  obtain ⟨i, hi, e | e⟩ := pos_ex h hn hp
  · have := (exN_at s h (k := n) (i := i) hi (by omega)).1
    rw [e, this]
    have h2 := slot_out hs (i := i) (by omega)
    have := soN_cases (s.getD i 0)
    exact ⟨h2.1, h2.2, by omega⟩
  · have := (exN_at s h (k := n) (i := i) hi (by omega)).2
    rw [e, this]
    have h2 := two_out s i
    exact ⟨h2.1, h2.2, by omega⟩
theorem ex_inj (h : dvB code = true) (hn : code.length = n) {p q : Nat} (hp : p < 2 * n) (hq : q < 2 * n) (e : exN code s n p = exN code s n q) : p = q := by
  obtain ⟨i, hi, ei⟩ := pos_ex h hn hp
  obtain ⟨j, hj, ej⟩ := pos_ex h hn hq
  have a := exN_at s h (k := n) (i := i) hi (by omega)
  have b := exN_at s h (k := n) (i := j) hj (by omega)
  have ca := soN_cases (s.getD i 0)
  have cb := soN_cases (s.getD j 0)
  have hij : i = j := by
    rcases ei with ei | ei <;> rcases ej with ej | ej <;> rw [ei, ej] at e <;> simp only [a.1, a.2, b.1, b.2] at e <;> omega
  subst hij
  rcases ei with ei | ei <;> rcases ej with ej | ej
  · omega
  · rw [ei, ej, a.1, a.2] at e; omega
  · rw [ei, ej, a.1, a.2] at e; omega
  · omega
theorem ex_all (h : dvB code = true) (hn : code.length = n) (_hs : sgnsB s = true) (hl : s.length = n) {x : Nat} (hx : x < 4 * n) (ho : outB s x = true) : ∃ p, p < 2 * n ∧ exN code s n p = x := by
  have a := exN_at s h (k := n) (i := x / 4) (by omega) (by omega)
  obtain ⟨b1, b2, _⟩ := ov_lt h (i := x / 4) (by omega)
  rw [hn] at b1 b2
  have hr : x % 4 = 0 ∨ x % 4 = 1 ∨ x % 4 = 2 ∨ x % 4 = 3 := by omega
  unfold outB at ho
  rcases hr with e | e | e | e
  · rw [e] at ho; simp at ho
  · rw [e] at ho
    have h1 : s.getD (x / 4) 0 = 1 := by simpa using ho
    refine ⟨_, b1, ?_⟩
    rw [a.1, h1]
    show 4 * (x / 4) + 1 = x
    omega
  · exact ⟨_, b2, by rw [a.2]; omega⟩
  · rw [e] at ho
    have h1 : s.getD (x / 4) 0 = -1 := by simpa using ho
    refine ⟨_, b1, ?_⟩
    rw [a.1, h1]
    show 4 * (x / 4) + 3 = x
    omega
/-- A passage's way out is mated with the next one's way in. -/
theorem jn_at {E : Nat → Nat} {L : Nat} {M : Nat → Nat} (hi : ∀ p q, p < L → q < L → E p = E q → p = q) (ho : ∀ p q, p < L → q < L → E p ≠ trn (E q) 2) (hL : 0 < L) (K : Nat) (hK : K ≤ L) {k : Nat} (hk : k < K) : jnN E L K M (E k) = trn (E ((k + 1) % L)) 2 := by
  induction K with
  | zero => omega
  | succ K ih =>
    show upd (upd _ _ _) _ _ (E k) = _
    rw [upd_other _ _ _ _ (ho k _ (by omega) (Nat.mod_lt _ hL))]
    by_cases e : k = K
    · subst e; rw [upd_same]
    · rw [upd_other _ _ _ _ (fun q => e (hi k K (by omega) (by omega) q))]
      exact ih (by omega) (by omega)
theorem mkM_step (h : dvB code = true) (hn : code.length = n) (hs : sgnsB s = true) (hl : s.length = n) {k : Nat} (hk : k < 2 * n) : fs (matesOf (mkM code s)) (exN code s n k) = exN code s n ((k + 1) % (2 * n)) := by
  have hlt := (ex_out h hn hs hl hk).2.2
  have hj := jn_at (E := exN code s n) (L := 2 * n) (M := fun _ => 0) (fun p q hp hq e => ex_inj h hn hp hq e)
    (fun p q hp hq e => by
      have h1 := (ex_out h hn hs hl hp).1
      rw [e, (ex_out h hn hs hl hq).2.1] at h1
      cases h1) (by omega) (2 * n) (Nat.le_refl _) hk
  have hm : matesOf (mkM code s) (exN code s n k) = trn (exN code s n ((k + 1) % (2 * n))) 2 := by
    unfold matesOf mt mkM
    rw [hn, lstN_get hlt, hj]
    rfl
  show trn (matesOf (mkM code s) (exN code s n k)) 2 = _
  rw [hm, trn_two]
theorem mk_it (h : dvB code = true) (hn : code.length = n) (hs : sgnsB s = true) (hl : s.length = n) (k : Nat) (hk : k < 2 * n) : it (fs (matesOf (mkM code s))) k (exN code s n 0) = exN code s n k := by
  induction k with
  | zero => rfl
  | succ k ih =>
    show fs _ (it _ k _) = _
    rw [ih (by omega), mkM_step h hn hs hl (by omega), Nat.mod_eq_of_lt hk]
theorem mk_one {lp : Int} (h : dvB code = true) (hn : code.length = n) (hl : s.length = n) (hv : validB s (mkM code s) lp = true) : (strandsM s (mkM code s) lp).length = 1 := by
  have F := bk_facts hv
  have hs := F.sg
  have hlm := F.lm
  rw [hl] at hlm
  have hpos : 0 < n := by have := (dvB_iff code).1 h; omega
  unfold strandsM
  rw [if_pos hv, cycL_len]
  have hx0 := ex_out h hn hs hl (p := 0) (by omega)
  have hall : ∀ a, a ∈ reprs (fs (matesOf (mkM code s))) (mkM code s).length (outB s) → Orb (fs (matesOf (mkM code s))) a (exN code s n 0) := fun a ha => by
    obtain ⟨a1, a2⟩ := reprs_mem.1 ha
    have ao := ((F.p.sel_iff _ a1).1 a2).1
    obtain ⟨p, hp, e⟩ := ex_all h hn hs hl (by omega) ao
    have o : Orb (fs (matesOf (mkM code s))) (exN code s n 0) a := ⟨p, by rw [mk_it h hn hs hl p hp, e]⟩
    exact F.p.orb_symm (by omega) o
  obtain ⟨r0, hr0, _⟩ := reprs_ex F.p (by omega : exN code s n 0 < (mkM code s).length) hx0.1
  have hnd : (reprs (fs (matesOf (mkM code s))) (mkM code s).length (outB s)).Nodup := List.Pairwise.filter _ List.nodup_range
  have huq : ∀ a b, a ∈ reprs (fs (matesOf (mkM code s))) (mkM code s).length (outB s) → b ∈ reprs (fs (matesOf (mkM code s))) (mkM code s).length (outB s) → a = b := fun a b ha hb => reprs_uniq F.p ha hb (hall a ha) (hall b hb)
  generalize reprs (fs (matesOf (mkM code s))) (mkM code s).length (outB s) = R at hnd huq hr0
  match R, hnd, huq, hr0 with
  | [], _, _, hr0 => cases hr0
  | [_], _, _, _ => rfl
  | a :: b :: t, hnd, huq, _ =>
    have := huq a b (by simp) (by simp)
    rw [this] at hnd
    simp at hnd
end

end Go.Proofs.Ytebliaclleplgaa

/- Walks: Ints, Lists (the reference's comparisons), Great. -/
namespace Go.Proofs.Ytebliaclleplgaa
open Go.RowKit

theorem below_drewN {B : Nat} {a w : World} (h : Below B a w) (n : Nat) : Below B a (w.drewN n) := ⟨h.os, h.tape, h.output, h.size, h.block⟩

theorem eq_of_getD {xs ys : List Int} (h1 : xs.length = ys.length) (h2 : ∀ j, j < xs.length → xs.getD j 0 = ys.getD j 0) : xs = ys := by
  apply List.ext_getElem h1
  intro i a b
  have := h2 i a
  simpa [List.getD, a, b] using this
theorem eq_of_getDL {xs ys : List (List Int)} (h1 : xs.length = ys.length) (h2 : ∀ j, j < xs.length → xs.getD j [] = ys.getD j []) : xs = ys := by
  apply List.ext_getElem h1
  intro i a b
  have := h2 i a
  simpa [List.getD, a, b] using this

set_option maxHeartbeats 800000 in
theorem ints_r (r : Bool) (A B : Option Addr) (n c m d : Nat) (xs ys : List Int) (w : World) (hx : RI w A n xs) (hy : RI w B m ys) (hn : n ≤ 1000000000000000) (hm : m ≤ 1000000000000000) (hr : r = decide (xs = ys)) :
    Calls Try.prog 16 #[.slice A n c, .slice B m d] w fun e w' => e = .returned (.bool r) ∧ Below w.heap.size w w' := by
  have hlx := hx.1
  have hly := hy.1
  by_cases hnm : n = m
  · subst hnm
    have HLX := Lib.hid hlx
    have HLY := Lib.hid hly
    have HR := Lib.hid hr
    have HE : Hid (∀ j, j < 0 → xs.getD j 0 = ys.getD j 0) := fun j hj => absurd hj (by omega)
    clear hlx hly hr
    go_enter Try.func16, Try.ntmps16
    go_wp2
    go_loopw [5] (fun i wr => ∃ k : Nat, k ≤ n ∧ i = .int .i64 k ∧ Below w.heap.size w wr ∧ Hid (∀ j, j < k → xs.getD j 0 = ys.getD j 0)) (fun i _ => n - (intOf i).toNat)
    case atStart => exact ⟨0, by omega, rfl, Below.refl _ _, HE⟩
    case round =>
      obtain ⟨k, hk, rfl, hbr, hall⟩ := hrel
      by_cases hlt : k < n
      · obtain ⟨b, off, rfl, hb, hc⟩ := (hx.keep hbr).2 (by omega)
        obtain ⟨b', off', rfl, hb', hc'⟩ := (hy.keep hbr).2 (by omega)
        have h1 := hc k hlt
        have h2 := hc' k hlt
        have hk0 : (0 : Int) ≤ (k : Int) := Int.natCast_nonneg _
        have hk1 : (k : Int) < (n : Int) := by omega
        by_cases he : xs.getD k 0 = ys.getD k 0
        · have hall' : Hid (∀ j, j < k + 1 → xs.getD j 0 = ys.getD j 0) := fun j hj => by
            by_cases e : j = k
            · subst e; exact he
            · exact hall.out j (by omega)
          rw [← he] at h2
          clear hx hy hc hc' he
          generalize xs.getD k 0 = x at *
          go_wp2
          go_quiet (fail)
          go_wp2
          go_roundw
          case rel => exact ⟨k + 1, by omega, by go_num, below_drewN hbr _, hall'⟩
          case measure => simp [intOf]; omega
        · have hne : (xs.getD k 0 != ys.getD k 0) = true := by simp only [bne_iff_ne, ne_eq]; exact he
          have hrf : r = false := by
            rw [HR.out, decide_eq_false_iff_not]
            intro e; exact he (by rw [e])
          subst hrf
          clear hx hy hc hc' he HR
          generalize xs.getD k 0 = x at *
          generalize ys.getD k 0 = y at *
          go_wp2
          go_quiet (fail)
          go_wp2
          go_ret
          exact ⟨rfl, below_drewN hbr _⟩
      · obtain rfl : k = n := by omega
        have hrt : r = true := by
          rw [HR.out, decide_eq_true_eq]
          exact eq_of_getD (by rw [HLX.out, HLY.out]) (fun j hj => hall.out j (by rw [← HLX.out]; exact hj))
        subst hrt
        clear hx hy HR
        go_wp2
        go_ret
        exact ⟨rfl, hbr⟩
  · have hrf : r = false := by
      rw [hr, decide_eq_false_iff_not]
      intro e; rw [e] at hlx; omega
    subst hrf
    have hne : ((n : Int) != (m : Int)) = true := by simp only [bne_iff_ne, ne_eq]; omega
    clear hx hy hlx hly hr hnm
    go_enter Try.func16, Try.ntmps16
    go_wp2
    go_ret
    exact ⟨rfl, Below.refl _ _⟩

/-- The slice value 'slice A n _' reads as the list xss of lists of ints. -/
def RO (w : World) (A : Option Addr) (n : Nat) (xss : List (List Int)) : Prop :=
  xss.length = n ∧ (0 < n → ∃ b off, A = some ⟨b, off, none⟩ ∧ b < w.heap.size ∧ ∀ j, j < n → ∃ A' n' c', w.cell? ⟨b, off + j, none⟩ = some (.slice A' n' c') ∧ RI w A' n' (xss.getD j []))
theorem RO.keep {w w' : World} {A : Option Addr} {n : Nat} {xss : List (List Int)} (h : RO w A n xss) (hb : Below w.heap.size w w') : RO w' A n xss :=
  ⟨h.1, fun hn => by
    obtain ⟨b, off, e, hlt, hc⟩ := h.2 hn
    refine ⟨b, off, e, Nat.lt_of_lt_of_le hlt hb.size, fun j hj => ?_⟩
    obtain ⟨A', n', c', h1, h2⟩ := hc j hj
    exact ⟨A', n', c', (hb.cell (p := ⟨b, off + j, none⟩) hlt).trans h1, h2.keep hb⟩⟩
theorem OO.ro {w : World} {B : Nat} {v : Value} {xss : List (List Int)} (h : OO w B v xss) : ∃ A c, v = .slice A xss.length c ∧ RO w A xss.length xss := by
  obtain ⟨vs, h1, h2, h3⟩ := h
  rcases h1.2 with ⟨h4, h5⟩ | ⟨g, cap, cur, h4, _, hg, _⟩
  · refine ⟨none, 0, by rw [h4, ← h2, h5], rfl, fun hn => by omega⟩
  · refine ⟨_, cap, by rw [h4, h2], rfl, fun hn => ⟨g, 0, rfl, ?_, fun j hj => ?_⟩⟩
    · rcases Nat.lt_or_ge g w.heap.size with hlt | hge
      · exact hlt
      · rw [Array.getElem?_eq_none hge] at hg; cases hg
    · have hj' : j < vs.length := by omega
      have h6 : w.cell? ⟨g, j, none⟩ = vs[j]? := by
        have h7 : w.ownsRow B 22 1 (.slice (some ⟨g, 0, none⟩) vs.length cap) vs.length vs := by rw [← h4]; exact h1
        exact World.ownsRow.cellAt h7 j (by omega)
      have h8 := h3 j hj
      have h9 : vs.getD j undef = vs[j] := by simp [List.getD, hj']
      rw [h9] at h8
      have hsl : ∃ A' n' c', vs[j] = .slice A' n' c' := by
        rcases h8.form with ⟨e, _⟩ | ⟨g', cap', e, _⟩
        · exact ⟨_, _, _, e⟩
        · exact ⟨_, _, _, e⟩
      obtain ⟨A', n', c', e⟩ := hsl
      rw [e] at h8
      exact ⟨A', n', c', by rw [Nat.zero_add, h6, List.getElem?_eq_getElem hj', e], h8.ri⟩

theorem RO.at_ {w : World} {A : Option Addr} {n : Nat} {xss : List (List Int)} (h : RO w A n xss) (hn : 0 < n) : ∃ b off, A = some ⟨b, off, none⟩ ∧ b < w.heap.size := by
  obtain ⟨b, off, e, hb, _⟩ := h.2 hn; exact ⟨b, off, e, hb⟩
theorem RO.el {w : World} {b off n : Nat} {xss : List (List Int)} (h : RO w (some ⟨b, off, none⟩) n xss) (j : Nat) (hj : j < n) : ∃ A' n' c', w.cell? ⟨b, off + j, none⟩ = some (.slice A' n' c') ∧ RI w A' n' (xss.getD j []) := by
  obtain ⟨b', off', e, hb, hc⟩ := h.2 (by omega)
  injection e with e; injection e with e1 e2; subst e1; subst e2
  exact hc j hj

end Go.Proofs.Ytebliaclleplgaa

/- Plain: what isomorphic computes. -/
namespace Go.Proofs.Ytebliaclleplgaa

/-- The image of each crossing, and whether all is well. -/
structure IsoS where
  img : Nat → Int
  ok : Bool
def isoStep (pA pB : Nat → Nat) (h : Nat) (s : IsoS) : IsoS :=
  if s.img (h / 4) < 0 then s else
    let m := pB (4 * (s.img (h / 4)).toNat + h % 4)
    let img := if s.img (pA h / 4) < 0 then (fun i => if i = pA h / 4 then ((m / 4 : Nat) : Int) else s.img i) else s.img
    ⟨img, s.ok && decide ((m : Int) = 4 * img (pA h / 4) + ((pA h % 4 : Nat) : Int))⟩
theorem isoStep_pos {pA pB : Nat → Nat} {h v e : Nat} {img : Nat → Int} {ok : Bool} (hv : img (h / 4) = (v : Int)) (he : 4 * v + h % 4 = e) : isoStep pA pB h ⟨img, ok⟩ = ⟨if img (pA h / 4) < 0 then (fun i => if i = pA h / 4 then ((pB e / 4 : Nat) : Int) else img i) else img, ok && decide ((pB e : Int) = 4 * (if img (pA h / 4) < 0 then (fun i => if i = pA h / 4 then ((pB e / 4 : Nat) : Int) else img i) else img) (pA h / 4) + ((pA h % 4 : Nat) : Int))⟩ := by
  unfold isoStep
  simp only [hv]
  rw [if_neg (by omega)]
  simp only [Int.toNat_natCast, he]
def isoH (pA pB : Nat → Nat) (s : IsoS) : Nat → IsoS
  | 0 => s
  | k + 1 => isoStep pA pB k (isoH pA pB s k)
def isoR (pA pB : Nat → Nat) (n : Nat) (s : IsoS) : Nat → IsoS
  | 0 => s
  | r + 1 => isoH pA pB (isoR pA pB n s r) (4 * n)
def isoE (sA sB : Nat → Int) (img : Nat → Int) (ok : Bool) : Nat → Bool
  | 0 => ok
  | i + 1 => isoE sA sB img ok i && decide (0 ≤ img i) && decide (sA i = sB (img i).toNat)
def iso0 (c : Nat) : IsoS := ⟨fun i => if i = 0 then (c : Int) else -1, true⟩
def isoC (pA pB : Nat → Nat) (sA sB : Nat → Int) (n c : Nat) : Bool :=
  isoE sA sB (isoR pA pB n (iso0 c) (n + 1)).img (isoR pA pB n (iso0 c) (n + 1)).ok n
def isoM (pA pB : Nat → Nat) (sA sB : Nat → Int) (n : Nat) : Bool := (List.range n).any fun c => isoC pA pB sA sB n c

/-- The images lie in their range. -/
def imgR (n : Nat) (img : Nat → Int) : Prop := ∀ i, i < n → -1 ≤ img i ∧ img i < n
theorem isoStep_r {pA pB : Nat → Nat} {n h : Nat} {s : IsoS} (_hA : ∀ h, h < 4 * n → pA h < 4 * n) (hB : ∀ h, h < 4 * n → pB h < 4 * n) (hh : h < 4 * n) (hs : imgR n s.img) : imgR n (isoStep pA pB h s).img := by
  unfold isoStep
  split
  · exact hs
  · next hn =>
    simp only
    have h4 := hs (h / 4) (by omega)
    have hm := hB (4 * (s.img (h / 4)).toNat + h % 4) (by omega)
    split
    · intro i hi
      simp only
      split
      · omega
      · exact hs i hi
    · exact hs
theorem isoH_r {pA pB : Nat → Nat} {n : Nat} {s : IsoS} (hA : ∀ h, h < 4 * n → pA h < 4 * n) (hB : ∀ h, h < 4 * n → pB h < 4 * n) (hs : imgR n s.img) : ∀ k, k ≤ 4 * n → imgR n (isoH pA pB s k).img
  | 0, _ => hs
  | k + 1, hk => isoStep_r hA hB (by omega) (isoH_r hA hB hs k (by omega))
theorem isoR_r {pA pB : Nat → Nat} {n : Nat} {s : IsoS} (hA : ∀ h, h < 4 * n → pA h < 4 * n) (hB : ∀ h, h < 4 * n → pB h < 4 * n) (hs : imgR n s.img) : ∀ r, imgR n (isoR pA pB n s r).img
  | 0 => hs
  | r + 1 => isoH_r hA hB (isoR_r hA hB hs r) (4 * n) (Nat.le_refl _)
theorem iso0_r {n c : Nat} (hc : c < n) : imgR n (iso0 c).img := fun i hi => by
  unfold iso0; simp only; split <;> omega

/-! An isomorphism makes it true. -/
/-- All images that are known are those of f. -/
def imgF (n : Nat) (f : Nat → Nat) (s : IsoS) : Prop := s.ok = true ∧ ∀ i, i < n → s.img i = -1 ∨ s.img i = (f i : Int)
structure IsoF (pA pB : Nat → Nat) (sA sB : Nat → Int) (n : Nat) (f : Nat → Nat) : Prop where
  pos : 0 < n
  a : ∀ h, h < 4 * n → pA h < 4 * n
  b : ∀ h, h < 4 * n → pB h < 4 * n
  fr : ∀ i, i < n → f i < n
  m : ∀ h, h < 4 * n → pB (4 * f (h / 4) + h % 4) = 4 * f (pA h / 4) + pA h % 4
  s : ∀ i, i < n → sA i = sB (f i)
  /-- Along the mates one comes everywhere. -/
  conn : ∀ S : Nat → Prop, S 0 → (∀ h, h < 4 * n → S (h / 4) → S (pA h / 4)) → ∀ i, i < n → S i
theorem isoStep_f {pA pB : Nat → Nat} {sA sB : Nat → Int} {n : Nat} {f : Nat → Nat} (F : IsoF pA pB sA sB n f) {h : Nat} (hh : h < 4 * n) {s : IsoS} (hs : imgF n f s) : imgF n f (isoStep pA pB h s) ∧ (∀ i, i < n → 0 ≤ s.img i → 0 ≤ (isoStep pA pB h s).img i) ∧ (0 ≤ s.img (h / 4) → 0 ≤ (isoStep pA pB h s).img (pA h / 4)) := by
  obtain ⟨h1, h2⟩ := hs
  have hp := F.a h hh
  unfold isoStep
  split
  · next hn => exact ⟨⟨h1, h2⟩, fun _ _ h => h, fun h => by omega⟩
  · next hn =>
    have e : s.img (h / 4) = (f (h / 4) : Int) := (h2 (h / 4) (by omega)).resolve_left (by omega)
    have hm := F.m h hh
    have e2 : (s.img (h / 4)).toNat = f (h / 4) := by rw [e]; omega
    simp only [e2, hm]
    have e3 : (4 * f (pA h / 4) + pA h % 4) / 4 = f (pA h / 4) := by omega
    rw [e3]
    split
    · next hn2 =>
      refine ⟨⟨?_, fun i hi => ?_⟩, fun i hi hi0 => ?_, fun _ => ?_⟩
      · simp only [h1, Bool.true_and, if_pos, decide_eq_true_eq]
        omega
      · simp only
        by_cases q : i = pA h / 4
        · rw [if_pos q, q]; exact .inr rfl
        · rw [if_neg q]; exact h2 i hi
      · simp only
        by_cases q : i = pA h / 4
        · rw [if_pos q]; omega
        · rw [if_neg q]; exact hi0
      · simp
    · next hn2 =>
      have e4 : s.img (pA h / 4) = (f (pA h / 4) : Int) := (h2 (pA h / 4) (by omega)).resolve_left (by omega)
      refine ⟨⟨?_, h2⟩, fun _ _ h => h, fun _ => by show 0 ≤ s.img (pA h / 4); omega⟩
      simp only [h1, Bool.true_and, decide_eq_true_eq, e4]
      omega
theorem isoH_f {pA pB : Nat → Nat} {sA sB : Nat → Int} {n : Nat} {f : Nat → Nat} (F : IsoF pA pB sA sB n f) {s : IsoS} (hs : imgF n f s) : ∀ k, k ≤ 4 * n → imgF n f (isoH pA pB s k) ∧ (∀ i, i < n → 0 ≤ s.img i → 0 ≤ (isoH pA pB s k).img i) ∧ (∀ h, h < k → 0 ≤ s.img (h / 4) → 0 ≤ (isoH pA pB s k).img (pA h / 4))
  | 0, _ => ⟨hs, fun _ _ h => h, fun h hh => absurd hh (by omega)⟩
  | k + 1, hk => by
    obtain ⟨a1, a2, a3⟩ := isoH_f F hs k (by omega)
    obtain ⟨b1, b2, b3⟩ := isoStep_f F (h := k) (by omega) a1
    refine ⟨b1, fun i hi h => b2 i hi (a2 i hi h), fun h hh h0 => ?_⟩
    by_cases e : h = k
    · subst e; exact b3 (a2 _ (by omega) h0)
    · exact b2 _ (by have := F.a h (by omega); omega) (a3 h (by omega) h0)
/-- The known images grow with each round, or all are known. -/
theorem isoR_f {pA pB : Nat → Nat} {sA sB : Nat → Int} {n : Nat} {f : Nat → Nat} (F : IsoF pA pB sA sB n f) {s : IsoS} (hs : imgF n f s) (h0 : 0 ≤ s.img 0) : ∀ r, imgF n f (isoR pA pB n s r) ∧ 0 ≤ (isoR pA pB n s r).img 0 ∧ (r ≤ ((List.range n).countP fun i => decide (0 ≤ (isoR pA pB n s r).img i)) ∨ ∀ i, i < n → 0 ≤ (isoR pA pB n s r).img i)
  | 0 => ⟨hs, h0, .inl (Nat.zero_le _)⟩
  | r + 1 => by
    obtain ⟨a1, a2, a3⟩ := isoR_f F hs h0 r
    obtain ⟨b1, b2, b3⟩ := isoH_f F a1 (4 * n) (Nat.le_refl _)
    refine ⟨b1, b2 0 F.pos a2, ?_⟩
    rcases a3 with a3 | a3
    · by_cases hall : ∀ i, i < n → 0 ≤ (isoR pA pB n s r).img i
      · exact .inr fun i hi => b2 i hi (hall i hi)
      · by_cases hstay : ∀ i, i < n → 0 ≤ (isoR pA pB n s (r + 1)).img i → 0 ≤ (isoR pA pB n s r).img i
        · refine absurd (fun i hi => ?_) hall
          exact F.conn (fun i => i < n → 0 ≤ (isoR pA pB n s r).img i) (fun _ => a2) (fun h hh hS hp => hstay _ hp (b3 h hh (hS (by omega)))) i hi hi
        · refine .inl ?_
          have : ∃ i, i < n ∧ 0 ≤ (isoR pA pB n s (r + 1)).img i ∧ ¬ 0 ≤ (isoR pA pB n s r).img i := by
            apply Classical.byContradiction
            intro hc
            exact hstay fun i hi h1 => Classical.byContradiction fun h2 => hc ⟨i, hi, h1, h2⟩
          obtain ⟨i, hi, c1, c2⟩ := this
          have key : ∀ l : List Nat, (∀ j ∈ l, j < n) → l.countP (fun i => decide (0 ≤ (isoR pA pB n s r).img i)) + (if i ∈ l then 1 else 0) ≤ l.countP (fun i => decide (0 ≤ (isoR pA pB n s (r + 1)).img i)) := by
            intro l
            induction l with
            | nil => intro _; simp
            | cons j l ih =>
              intro hl
              have ih := ih fun j hj => hl j (by simp [hj])
              rw [List.countP_cons, List.countP_cons]
              by_cases ej : i = j
              · subst ej
                rw [if_neg (fun e => c2 (of_decide_eq_true e)), if_pos (decide_eq_true c1), if_pos List.mem_cons_self]
                split at ih <;> omega
              · have hm : i ∈ j :: l ↔ i ∈ l := by simp [ej]
                simp only [hm]
                by_cases e1 : 0 ≤ (isoR pA pB n s r).img j
                · rw [if_pos (decide_eq_true e1), if_pos (decide_eq_true (show 0 ≤ (isoR pA pB n s (r + 1)).img j from b2 j (hl j (by simp)) e1))]; omega
                · rw [if_neg (fun e => e1 (of_decide_eq_true e))]
                  generalize (if decide (0 ≤ (isoR pA pB n s (r + 1)).img j) = true then 1 else 0) = q
                  omega
          have := key (List.range n) fun j hj => List.mem_range.1 hj
          rw [if_pos (List.mem_range.2 hi)] at this
          omega
    · exact .inr fun i hi => b2 i hi (a3 i hi)
theorem isoE_f {sA sB : Nat → Int} {img : Nat → Int} {f : Nat → Nat} : ∀ n, (∀ i, i < n → img i = (f i : Int)) → (∀ i, i < n → sA i = sB (f i)) → isoE sA sB img true n = true
  | 0, _, _ => rfl
  | n + 1, h1, h2 => by
    unfold isoE
    rw [isoE_f n (fun i hi => h1 i (by omega)) (fun i hi => h2 i (by omega)), h1 n (by omega)]
    simp [h2 n (by omega)]
theorem isoM_true {pA pB : Nat → Nat} {sA sB : Nat → Int} {n : Nat} {f : Nat → Nat} (F : IsoF pA pB sA sB n f) : isoM pA pB sA sB n = true := by
  have hs : imgF n f (iso0 (f 0)) := ⟨rfl, fun i _ => by
    unfold iso0; simp only
    by_cases e : i = 0
    · rw [if_pos e, e]; exact .inr rfl
    · rw [if_neg e]; exact .inl rfl⟩
  obtain ⟨a1, a2, a3⟩ := isoR_f F hs (by unfold iso0; simp) (n + 1)
  have hall : ∀ i, i < n → 0 ≤ (isoR pA pB n (iso0 (f 0)) (n + 1)).img i := by
    rcases a3 with a3 | a3
    · have : ((List.range n).countP fun i => decide (0 ≤ (isoR pA pB n (iso0 (f 0)) (n + 1)).img i)) ≤ (List.range n).length := List.countP_le_length
      rw [List.length_range] at this
      omega
    · exact a3
  unfold isoM
  refine List.any_eq_true.2 ⟨f 0, List.mem_range.2 (F.fr 0 F.pos), ?_⟩
  unfold isoC
  rw [a1.1]
  exact isoE_f n (fun i hi => (a1.2 i hi).resolve_left (by have := hall i hi; omega)) F.s

end Go.Proofs.Ytebliaclleplgaa
