import Derived.Test.YtambhopkacgddaaF11
import Derived.Test.YtambhopkacgddaaF08
import Derived.Test.YtambhopkacgddaaF12
/- Walk: the law DowkerOvers. -/
namespace Go.Proofs.Ytambhopkacgddaa
open Go.ChangeShapes Go.WideShapes Go.ChangeAt Go.RowKit Go.Joins

/-- Two own slices of ints that lie apart. -/
structure TwoI (w : World) (B : Nat) (v1 : Value) (xs1 : List Int) (v2 : Value) (xs2 : List Int) : Prop where
  a : OI w B v1 xs1
  b : OI w B v2 xs2
  ap : v1.ownBlock = none ∨ v1.ownBlock ≠ v2.ownBlock
theorem apart_swap {a b : Option Nat} (h : a = none ∨ a ≠ b) : b = none ∨ b ≠ a := by
  rcases h with h | h
  · subst h
    cases b with
    | none => exact .inl rfl
    | some k => exact .inr (by simp)
  · exact .inr fun e => h e.symm
theorem TwoI.nil (w : World) (B : Nat) : TwoI w B (.slice none 0 0) [] (.slice none 0 0) [] := ⟨OI.nil _ _, OI.nil _ _, .inl rfl⟩
theorem TwoI.swap {w : World} {B : Nat} {v1 v2 : Value} {xs1 xs2 : List Int} (h : TwoI w B v1 xs1 v2 xs2) : TwoI w B v2 xs2 v1 xs1 := ⟨h.b, h.a, apart_swap h.ap⟩
theorem TwoI.keep {w w' : World} {B : Nat} {v1 v2 : Value} {xs1 xs2 : List Int} (h : TwoI w B v1 xs1 v2 xs2) (hb : Below w.heap.size w w') : TwoI w' B v1 xs1 v2 xs2 := ⟨h.a.keep hb, h.b.keep hb, h.ap⟩
theorem TwoI.app {w w' : World} {B : Nat} {v1 v1' v2 : Value} {xs1 xs1' xs2 : List Int} (h : TwoI w B v1 xs1 v2 xs2) (ho : OI w' B v1' xs1') (hg : w.grownBy w' v1.ownBlock) (hat : v1'.ownBlock = v1.ownBlock ∨ v1'.ownBlock = some w.heap.size) : TwoI w' B v1' xs1' v2 xs2 := by
  refine ⟨ho, h.b.grown hg (apart_swap h.ap), ?_⟩
  rcases hat with e | e
  · rw [e]; exact h.ap
  · rw [e]
    exact .inr fun e2 => by have := (World.ownsRow.lt h.b _ e2.symm).2; omega

/-- The lists behind k rounds. -/
structure Ovs (code : List Int) (k : Nat) (xs ys : List Int) : Prop where
  lx : xs.length = k
  ly : ys.length = k
  x : ∀ j, j < k → xs.getD j 0 = code.getD j 0 ∨ xs.getD j 0 = -(code.getD j 0)
  y : ∀ j, j < k → ys.getD j 0 = -(code.getD j 0)
theorem getD_snoc {xs : List Int} {v : Int} {k j : Nat} (hl : xs.length = k) (hj : j < k + 1) : (xs ++ [v]).getD j 0 = if j = k then v else xs.getD j 0 := by
  by_cases e : j = k
  · rw [if_pos e]; subst e; subst hl; simp [List.getD]
  · rw [if_neg e, List.getD, List.getD, List.getElem?_append_left (by omega)]
theorem Ovs.more {code xs ys : List Int} {k : Nat} {v : Int} (h : Ovs code k xs ys) (hv : v = code.getD k 0 ∨ v = -(code.getD k 0)) : Ovs code (k + 1) (xs ++ [v]) (ys ++ [-(code.getD k 0)]) := by
  refine ⟨by simp [h.lx], by simp [h.ly], fun j hj => ?_, fun j hj => ?_⟩
  · rw [getD_snoc h.lx hj]
    by_cases e : j = k
    · rw [if_pos e, e]; exact hv
    · rw [if_neg e]; exact h.x j (by omega)
  · rw [getD_snoc h.ly hj]
    by_cases e : j = k
    · rw [if_pos e, e]
    · rw [if_neg e]; exact h.y j (by omega)
theorem Ovs.flip {code xs ys : List Int} {k : Nat} (h : Ovs code k xs ys) (hk : code.length = k) : Flip (fun i => decide (xs.getD i 0 = -(code.getD i 0))) code xs ∧ Flip (fun _ => true) code ys := by
  refine ⟨⟨by rw [h.lx, hk], fun i hi => ?_⟩, ⟨by rw [h.ly, hk], fun i hi => by rw [if_pos rfl]; exact h.y i (by omega)⟩⟩
  by_cases e : xs.getD i 0 = -(code.getD i 0)
  · rw [if_pos (decide_eq_true e)]; exact e
  · rw [if_neg (by simpa using e)]
    exact (h.x i (by omega)).resolve_right e
theorem sg_call (C : Option Addr) (n cc : Nat) (code : List Int) (W : World) (hC : RI W C n code) (hn : n ≤ 9223372036854775807) (hI : inL code) (E : Int) (L : List Int) (hE : dgE code = E) (hL : dgL code = L) :
    Calls Try.prog 18 #[.slice C n cc] W fun e w' => ∃ A c, e = .returned (.tuple #[.slice A L.length c, .int .i64 E]) ∧ RI w' A L.length L ∧ Below W.heap.size W w' := by
  refine (dsigns_any C n cc code W hC hn hI).mono ?_
  rintro e w' ⟨A, ns, cs, rfl, h1, hb⟩
  rw [hL] at h1
  obtain rfl := h1.1
  exact ⟨A, cs, by rw [hE], h1, hb⟩

set_option maxHeartbeats 6400000 in
set_option maxRecDepth 100000 in
theorem dkovers_walk (C : Option Addr) (n cc : Nat) (x : Int) (code : List Int) (w : World) (hC : RI w C n code) (hn : n ≤ 9223372036854775807) (hI : ∀ z ∈ code, inI z) (hx : 0 ≤ x ∧ x ≤ 65535) :
    Calls Try.prog 8 #[.slice C n cc, .int .u16 x] w fun e w' => e = .returned (.bool true) ∧ Below w.heap.size w w' := by
  have CA := Lib.hid (dawake_any w)
  by_cases h10 : 10 < n
  · have h10' : 10 < (n : Int) := by omega
    clear hC hI
    go_enter Try.func8, Try.ntmps8
    go_wp2_with ((with_reducible refine CA.out.mono ?_); rintro e w1 ⟨rfl, hb1⟩)
    go_ret
    exact ⟨rfl, hb1⟩
  · have h10' : ¬ 10 < (n : Int) := by omega
    have CV : ∀ W, Below w.heap.size w W → Hid (Calls Try.prog 16 #[.slice C n cc] W fun e w' => e = .returned (.bool (dvB code)) ∧ Below W.heap.size W w') := fun W hb => dvalid_any C n cc code W (hC.keep hb) hn (inL_of hI)
    cases hv : dvB code with
    | false =>
      simp only [hv] at CV
      clear hC hI hv
      go_enter Try.func8, Try.ntmps8
      go_wp2_with (first
        | (go_at_call 10; ((with_reducible refine CA.out.mono ?_); rintro e w1 ⟨rfl, hb1⟩))
        | (go_at_call 16; ((with_reducible refine (CV _ hb1).out.mono ?_); rintro e w2 ⟨rfl, hb2⟩)))
      go_ret
      exact ⟨rfl, below_step hb1 hb2⟩
    | true =>
      simp only [hv] at CV
      have hl := hC.1
      have hpos : 0 < n := by have := (dvB_iff code).1 hv; omega
      obtain ⟨b, off, rfl, hb, hc⟩ := hC.2 hpos
      have HC := Lib.hid hC
      have HCC := Lib.hid hc
      have HV := Lib.hid hv
      have HI := Lib.hid hI
      have HX := Lib.hid hx
      have HL := Lib.hid hl
      clear hC hI hv hc hl
      obtain ⟨hx0, hx1⟩ := hx
      have hn1 : (n : Int) ≤ 10 := by omega
      go_enter Try.func8, Try.ntmps8
      go_wp2_with (first
        | (go_at_call 10; ((with_reducible refine CA.out.mono ?_); rintro e w1 ⟨rfl, hb1⟩))
        | (go_at_call 16; ((with_reducible refine (CV _ hb1).out.mono ?_); rintro e w2 ⟨rfl, hb2⟩; have hb12 := below_step hb1 hb2)))
      go_loopw [5, 6, 7] (fun v5 v6 i wr => ∃ k : Nat, k ≤ n ∧ i = .int .i64 k ∧ Below w.heap.size w wr ∧ ∃ xs ys, Ovs code k xs ys ∧ TwoI wr w.heap.size v5 xs v6 ys) (fun _ _ i _ => n - (intOf i).toNat)
      case atStart => exact ⟨0, by omega, rfl, hb12, [], [], ⟨rfl, rfl, fun j hj => absurd hj (by omega), fun j hj => absurd hj (by omega)⟩, TwoI.nil _ _⟩
      case round =>
        obtain ⟨k, hk, rfl, hbr, xs, ys, hov, htw⟩ := hrel
        by_cases hlt : k < n
        · have hcell : wr.cell? ⟨b, off + k, none⟩ = some (.int .i64 (code.getD k 0)) := (hbr.cell (p := ⟨b, off + k, none⟩) hb).trans (HCC.out k hlt)
          have hcl := (dv_small HV.out (i := k) (by rw [HL.out]; exact hlt)).2.2
          have HOV := Lib.hid hov
          have HTW := Lib.hid htw
          obtain ⟨y, hy⟩ : ∃ y, code.getD k 0 = y := ⟨_, rfl⟩
          have HY := Lib.hid hy
          rw [hy] at hcell hcl
          obtain ⟨hy1, hy2⟩ := hcl
          have hneg : IntKind.i64.wrap (-y) = -y := IntWalk.i64_in _ (by omega)
          have hk0 : (0 : Int) ≤ (k : Int) := Int.natCast_nonneg _
          have hk1 : (k : Int) < (n : Int) := by omega
          have hk10 : (k : Int) < 10 := by omega
          have hconv : IntKind.u64.wrap (k : Int) = (k : Int) := by rw [IntKind.wrap_u64]; omega
          clear hy hov htw
          cases hbit : ((x / 2 ^ k).tmod 2 == 1) with
          | true =>
            go_wp2_with (first
              | (at_builtin
                 refine wpList_append_int_at rfl (.tmp 36) (.tmp 42) rfl w.heap.size u5 xs rfl (HTW.out.a.alloc _) wr.heap.size (-y) rfl (by rw [World.cell?_alloc_at _ _ _ _ rfl]; rfl) (by have := HOV.out.lx; omega) (by have := hbr.size; simp; omega) ?_
                 intro v7 w7 ho7 hg7 hat7
                 have HT7 := Lib.hid ((HTW.out.keep (below_alloc wr (.cells #[.int .i64 (-y)] 3))).app ho7 hg7 hat7)
                 have hb7 : Below w.heap.size w w7 := (hbr.alloc hbr.size (.cells #[.int .i64 (-y)] 3)).grown hg7 (by have := hbr.size; simp; omega) (fun q hq => (World.ownsRow.lt HTW.out.a q hq).1)
                 have hc7 : w7.cell? ⟨b, off + k, none⟩ = some (.int .i64 y) := (hb7.cell (p := ⟨b, off + k, none⟩) hb).trans ((hbr.cell (p := ⟨b, off + k, none⟩) hb).symm.trans hcell)
                 clear ho7 hg7 hat7)
              | (at_builtin
                 refine wpList_append_int_at rfl (.tmp 51) (.tmp 57) rfl w.heap.size u6 ys rfl (HT7.out.b.alloc _) w7.heap.size (-y) rfl (by rw [World.cell?_alloc_at _ _ _ _ rfl]; rfl) (by have := HOV.out.ly; omega) (by have := hb7.size; simp; omega) ?_
                 intro v8 w8 ho8 hg8 hat8
                 have HT8 := Lib.hid ((HT7.out.swap.keep (below_alloc w7 (.cells #[.int .i64 (-y)] 3))).app ho8 hg8 hat8).swap
                 have hb8 : Below w.heap.size w w8 := (hb7.alloc hb7.size (.cells #[.int .i64 (-y)] 3)).grown hg8 (by have := hb7.size; simp; omega) (fun q hq => (World.ownsRow.lt HT7.out.b q hq).1)
                 clear ho8 hg8 hat8))
            go_roundw
            case rel => exact ⟨k + 1, by omega, by go_num, hb8, xs ++ [-y], ys ++ [-y], by
              have := HOV.out.more (v := -y) (by rw [HY.out]; exact .inr rfl)
              rwa [HY.out] at this, HT8.out⟩
            case measure => simp [intOf]; omega
          | false =>
            go_wp2_with (first
              | (at_builtin
                 refine wpList_append_int_at rfl (.tmp 44) (.tmp 49) rfl w.heap.size u5 xs rfl (HTW.out.a.alloc _) wr.heap.size (y) rfl (by rw [World.cell?_alloc_at _ _ _ _ rfl]; rfl) (by have := HOV.out.lx; omega) (by have := hbr.size; simp; omega) ?_
                 intro v7 w7 ho7 hg7 hat7
                 have HT7 := Lib.hid ((HTW.out.keep (below_alloc wr (.cells #[.int .i64 (y)] 3))).app ho7 hg7 hat7)
                 have hb7 : Below w.heap.size w w7 := (hbr.alloc hbr.size (.cells #[.int .i64 (y)] 3)).grown hg7 (by have := hbr.size; simp; omega) (fun q hq => (World.ownsRow.lt HTW.out.a q hq).1)
                 have hc7 : w7.cell? ⟨b, off + k, none⟩ = some (.int .i64 y) := (hb7.cell (p := ⟨b, off + k, none⟩) hb).trans ((hbr.cell (p := ⟨b, off + k, none⟩) hb).symm.trans hcell)
                 clear ho7 hg7 hat7)
              | (at_builtin
                 refine wpList_append_int_at rfl (.tmp 51) (.tmp 57) rfl w.heap.size u6 ys rfl (HT7.out.b.alloc _) w7.heap.size (-y) rfl (by rw [World.cell?_alloc_at _ _ _ _ rfl]; rfl) (by have := HOV.out.ly; omega) (by have := hb7.size; simp; omega) ?_
                 intro v8 w8 ho8 hg8 hat8
                 have HT8 := Lib.hid ((HT7.out.swap.keep (below_alloc w7 (.cells #[.int .i64 (-y)] 3))).app ho8 hg8 hat8).swap
                 have hb8 : Below w.heap.size w w8 := (hb7.alloc hb7.size (.cells #[.int .i64 (-y)] 3)).grown hg8 (by have := hb7.size; simp; omega) (fun q hq => (World.ownsRow.lt HT7.out.b q hq).1)
                 clear ho8 hg8 hat8))
            go_roundw
            case rel => exact ⟨k + 1, by omega, by go_num, hb8, xs ++ [y], ys ++ [-y], by
              have := HOV.out.more (v := y) (by rw [HY.out]; exact .inl rfl)
              rwa [HY.out] at this, HT8.out⟩
            case measure => simp [intOf]; omega
        · obtain rfl : k = n := by omega
          obtain ⟨f1, f2⟩ := hov.flip HL.out
          have hv1 := f1.dv HV.out
          have hv2 := f2.dv HV.out
          have e1 := f1.dgE HV.out
          have e2 := f2.dgE HV.out
          have e3 := all_dgL f2 HV.out
          have hlx := hov.lx
          have hly := hov.ly
          obtain ⟨A5, n5, c5, rfl⟩ : ∃ A n c, u5 = .slice A n c := by
            rcases htw.a.form with ⟨e, _⟩ | ⟨g, cap, e, _⟩
            · exact ⟨_, _, _, e⟩
            · exact ⟨_, _, _, e⟩
          obtain ⟨A6, n6, c6, rfl⟩ : ∃ A n c, u6 = .slice A n c := by
            rcases htw.b.form with ⟨e, _⟩ | ⟨g, cap, e, _⟩
            · exact ⟨_, _, _, e⟩
            · exact ⟨_, _, _, e⟩
          have hr5 := htw.a.ri
          have hr6 := htw.b.ri
          obtain rfl : k = n5 := hlx.symm.trans hr5.1
          obtain rfl : k = n6 := hly.symm.trans hr6.1
          obtain ⟨E, hE⟩ : ∃ E, dgE code = E := ⟨_, rfl⟩
          obtain ⟨L, hLL⟩ : ∃ L, dgL code = L := ⟨_, rfl⟩
          have C1 := Lib.hid (sg_call (some ⟨b, off, none⟩) k cc code wr (HC.out.keep hbr) hn (inL_of HI.out) E L hE hLL)
          have C2 : ∀ W, Below wr.heap.size wr W → Hid (Calls Try.prog 18 #[.slice A5 k c5] W fun e w' => ∃ A c, e = .returned (.tuple #[.slice A (dgL xs).length c, .int .i64 E]) ∧ RI w' A (dgL xs).length (dgL xs) ∧ Below W.heap.size W w') := fun W hb => sg_call A5 k c5 xs W (hr5.keep hb) hn (inL_dv hv1) E (dgL xs) (e1.trans hE) rfl
          have C3 : ∀ W, Below wr.heap.size wr W → Hid (Calls Try.prog 18 #[.slice A6 k c6] W fun e w' => ∃ A c, e = .returned (.tuple #[.slice A L.length c, .int .i64 E]) ∧ RI w' A L.length L ∧ Below W.heap.size W w') := fun W hb => sg_call A6 k c6 ys W (hr6.keep hb) hn (inL_dv hv2) E L (e2.trans hE) (e3.trans hLL)
          have hLn : L.length ≤ 64 := by
            rw [← hLL]
            unfold dgL
            have h64 := ((dvB_iff code).1 HV.out).2.1
            split
            · simp
            · split
              · simp
              · cases q : dgS code with
                | none => simp
                | some l =>
                  have h1 := (srch_out (show srch code (code.length - 1) [1] = some l from q)).1
                  simp only [List.length_cons, List.length_nil] at h1
                  show l.length ≤ 64
                  omega
          have HLN := Lib.hid hLn
          clear hlt hk f1 f2 hv1 hv2 e1 e2 e3 hlx hly htw hov hr5 hr6 hE hLL hLn
          go_wp2_with (first
            | (go_at_call 14; ((with_reducible refine (ints_r true A1 A3 L.length c1 L.length c3 L L _ hR3 h3 (by omega) (by omega) (by simp)).mono ?_); rintro e w6 ⟨rfl, hb6⟩))
            | (go_at_call 18; ((with_reducible refine (C3 _ hb45).out.mono ?_); rintro e w5 ⟨A3, c3, rfl, h3, hb5⟩; have hR3 := hR2.keep hb5; have hln := HLN.out))
            | (go_at_call 18; ((with_reducible refine (C2 _ hb4).out.mono ?_); rintro e w5 ⟨A2, c2, rfl, h2, hb5'⟩; have hR2 := h1.keep hb5'; have hb45 := below_step hb4 hb5'))
            | (go_at_call 18; ((with_reducible refine C1.out.mono ?_); rintro e w4 ⟨A1, c1, rfl, h1, hb4⟩)))
          go_ret
          exact ⟨rfl, below_step (below_step (hbr.trans (hb45.mono hbr.size)) hb5) hb6⟩

end Go.Proofs.Ytambhopkacgddaa

/- Walk: the law DowkerDraws. -/
namespace Go.Proofs.Ytambhopkacgddaa
open Go.ChangeShapes Go.WideShapes Go.ChangeAt Go.RowKit Go.Joins

theorem dg_e (C : Option Addr) (n cc : Nat) (code : List Int) (W : World) (hC : RI W C n code) (hn : n ≤ 9223372036854775807) (hI : inL code) (E : Int) (L M : List Int) (hE : dgE code = E) (hL : dgL code = L) (hM : dgM code = M) :
    Calls Try.prog 19 #[.slice C n cc] W fun e w' => ∃ A cs B cm, e = .returned (.tuple #[dval A L.length cs B M.length cm 0, .int .i64 E]) ∧ RI w' A L.length L ∧ RI w' B M.length M ∧ Below W.heap.size W w' := by
  refine (diagram_any C n cc code W hC hn hI).mono ?_
  rintro e w' ⟨A, ns, cs, B, nm, cm, rfl, h1, h2, hb⟩
  rw [hL] at h1
  rw [hM] at h2
  obtain rfl := h1.1
  obtain rfl := h2.1
  exact ⟨A, cs, B, cm, by rw [hE], h1, h2, hb⟩

set_option maxHeartbeats 6400000 in
set_option maxRecDepth 100000 in
theorem dkdraws_walk (C : Option Addr) (n cc : Nat) (code : List Int) (w : World) (hC : RI w C n code) (hn : n ≤ 9223372036854775807) (hI : ∀ z ∈ code, inI z) :
    Calls Try.prog 5 #[.slice C n cc] w fun e w' => e = .returned (.bool true) ∧ Below w.heap.size w w' := by
  have CA := Lib.hid (dawake_any w)
  by_cases h7 : 7 < n
  · have h7' : 7 < (n : Int) := by omega
    clear hC hI
    go_enter Try.func5, Try.ntmps5
    go_wp2_with ((with_reducible refine CA.out.mono ?_); rintro e w1 ⟨rfl, hb1⟩)
    go_ret
    exact ⟨rfl, hb1⟩
  · have h7' : ¬ 7 < (n : Int) := by omega
    have hl := hC.1
    have hkp : ∀ W, Below w.heap.size w W → RI W C n code := fun W hb => hC.keep hb
    have hIL := inL_of hI
    have CR : ∀ W, Below w.heap.size w W → Hid (Calls Try.prog 17 #[.slice C n cc] W fun e w' => e = .returned (.bool (dvB code)) ∧ W = w') := fun W hb => rdvalid_r _ C n cc code W (hkp W hb) hn hIL rfl
    cases hv : dvB code with
    | false =>
      have hE : dgE code = 3 := by simp [dgE, hv]
      have hL : dgL code = [] := by simp [dgL, hv]
      have hM : dgM code = [] := by simp [dgM, hv]
      have CS : ∀ W, Below w.heap.size w W → Hid (Calls Try.prog 18 #[.slice C n cc] W fun e w' => ∃ A c, e = .returned (.tuple #[.slice A 0 c, .int .i64 3]) ∧ RI w' A 0 [] ∧ Below W.heap.size W w') := fun W hb => sg_call C n cc code W (hkp W hb) hn hIL 3 [] hE hL
      have CD : ∀ W, Below w.heap.size w W → Hid (Calls Try.prog 19 #[.slice C n cc] W fun e w' => ∃ A cs B cm, e = .returned (.tuple #[dval A 0 cs B 0 cm 0, .int .i64 3]) ∧ RI w' A 0 [] ∧ RI w' B 0 [] ∧ Below W.heap.size W w') := fun W hb => dg_e C n cc code W (hkp W hb) hn hIL 3 [] [] hE hL hM
      simp only [hv] at CR
      clear hC hI hl hkp hIL hv hE hL hM
      go_enter Try.func5, Try.ntmps5
      go_wp2_with (first
        | (go_at_call 10; ((with_reducible refine CA.out.mono ?_); rintro e w1 ⟨rfl, hb1⟩))
        | (go_at_call 18; ((with_reducible refine (CS _ hb1).out.mono ?_); rintro e w2 ⟨A2, c2, rfl, hr2, hb2⟩; have hb12 := below_step hb1 hb2))
        | (go_at_call 19; ((with_reducible refine (CD _ hb12).out.mono ?_); rintro e w3 ⟨A3, cs3, B3, cm3, rfl, hr3, hr3', hb3⟩; have hb13 := below_step (below_step hb12 hb3) (below_alloc w3 (dbox A3 0 cs3 B3 0 cm3 0)); obtain ⟨x0, x1, x2, xlt⟩ := DB.new w3 A3 0 cs3 B3 0 cm3 0))
        | (go_at_call 17; ((with_reducible refine (CR _ hb13).out.mono ?_); rintro e w4 ⟨rfl, rfl⟩)))
      go_ret
      exact ⟨rfl, hb13⟩
    | true =>
      have hv64 := ((dvB_iff code).1 hv).2.1
      have CL : ∀ W, Below w.heap.size w W → Hid (Calls Try.prog 20 #[.slice C n cc] W (CycsPost W (allK code n (2 ^ n)))) := fun W hb => all_any C n cc code W (hkp W hb) (by omega) hIL hv
      have hhead := allK_head hv hl
      have h14 : ¬ 14 < code.length := by omega
      simp only [hv] at CR
      cases hS : dgS code with
      | none =>
        have hE : dgE code = 7 := by simp [dgE, hv, h14, hS]
        have hL : dgL code = [] := by simp [dgL, hv, h14, hS]
        have hM : dgM code = [] := by simp [dgM, hv, h14, hS]
        have hall : allK code n (2 ^ n) = [] := by rw [hS] at hhead; exact List.head?_eq_none_iff.1 hhead
        have CS : ∀ W, Below w.heap.size w W → Hid (Calls Try.prog 18 #[.slice C n cc] W fun e w' => ∃ A c, e = .returned (.tuple #[.slice A 0 c, .int .i64 7]) ∧ RI w' A 0 [] ∧ Below W.heap.size W w') := fun W hb => sg_call C n cc code W (hkp W hb) hn hIL 7 [] hE hL
        have CD : ∀ W, Below w.heap.size w W → Hid (Calls Try.prog 19 #[.slice C n cc] W fun e w' => ∃ A cs B cm, e = .returned (.tuple #[dval A 0 cs B 0 cm 0, .int .i64 7]) ∧ RI w' A 0 [] ∧ RI w' B 0 [] ∧ Below W.heap.size W w') := fun W hb => dg_e C n cc code W (hkp W hb) hn hIL 7 [] [] hE hL hM
        simp only [hall] at CL
        clear hC hI hl hkp hIL hv hE hL hM hall hhead hS h14
        go_enter Try.func5, Try.ntmps5
        go_wp2_with (first
          | (go_at_call 10; ((with_reducible refine CA.out.mono ?_); rintro e w1 ⟨rfl, hb1⟩))
          | (go_at_call 18; ((with_reducible refine (CS _ hb1).out.mono ?_); rintro e w2 ⟨A2, c2, rfl, hr2, hb2⟩; have hb12 := below_step hb1 hb2))
          | (go_at_call 19; ((with_reducible refine (CD _ hb12).out.mono ?_); rintro e w3 ⟨A3, cs3, B3, cm3, rfl, hr3, hr3', hb3⟩; have hb13 := below_step (below_step hb12 hb3) (below_alloc w3 (dbox A3 0 cs3 B3 0 cm3 0)); obtain ⟨x0, x1, x2, xlt⟩ := DB.new w3 A3 0 cs3 B3 0 cm3 0))
          | (go_at_call 17; ((with_reducible refine (CR _ hb13).out.mono ?_); rintro e w4 ⟨rfl, rfl⟩))
          | (go_at_call 20; ((with_reducible refine (CL _ hb13).out.mono ?_); rintro e w5 ⟨v5, rfl, ho5, hb5⟩; obtain ⟨A5, c5, rfl⟩ := ho5.form; have y0 := (hb5.cell (p := ⟨w3.heap.size, 0, none⟩) xlt).trans x0; have y1 := (hb5.cell (p := ⟨w3.heap.size, 1, none⟩) xlt).trans x1)))
        go_ret
        exact ⟨rfl, below_step hb13 hb5⟩
      | some l =>
        obtain ⟨h1, h2, h3⟩ := srch_out (show srch code (code.length - 1) [1] = some l from hS)
        have hpos := ((dvB_iff code).1 hv).1
        have hln : l.length = n := by rw [h1]; show 1 + (code.length - 1) = n; omega
        have hsg := (bk_facts h2).sg
        have hml : (mkM code l).length = 4 * n := mkM_len hl
        have hE : dgE code = 0 := by simp [dgE, hv, h14, hS]
        have hL : dgL code = l := by simp [dgL, hv, h14, hS]
        have hM : dgM code = mkM code l := by simp [dgM, hv, h14, hS]
        obtain ⟨t, hall⟩ : ∃ t, allK code n (2 ^ n) = l :: t := by
          rw [hS] at hhead
          cases q : allK code n (2 ^ n) with
          | nil => rw [q] at hhead; cases hhead
          | cons a t => rw [q] at hhead; injection hhead with e; exact ⟨t, by rw [e]⟩
        have htl : t.length ≤ 128 := by
          have := allK_le code n (2 ^ n)
          rw [hall] at this
          have : 2 ^ n ≤ 128 := Nat.le_trans (Nat.pow_le_pow_right (by decide) (by omega : n ≤ 7)) (by decide)
          simp at *
          omega
        have CS : ∀ W, Below w.heap.size w W → Hid (Calls Try.prog 18 #[.slice C n cc] W fun e w' => ∃ A c, e = .returned (.tuple #[.slice A n c, .int .i64 0]) ∧ RI w' A n l ∧ Below W.heap.size W w') := fun W hb => by
          have := sg_call C n cc code W (hkp W hb) hn hIL 0 l hE hL
          rw [hln] at this; exact this
        have CD : ∀ W, Below w.heap.size w W → Hid (Calls Try.prog 19 #[.slice C n cc] W fun e w' => ∃ A cs B cm, e = .returned (.tuple #[dval A n cs B (4 * n) cm 0, .int .i64 0]) ∧ RI w' A n l ∧ RI w' B (4 * n) (mkM code l) ∧ Below W.heap.size W w') := fun W hb => by
          have := dg_e C n cc code W (hkp W hb) hn hIL 0 l (mkM code l) hE hL hM
          rw [hln, hml] at this; exact this
        simp only [hall] at CL
        have CI : ∀ (W : World) (A1 A2 : Option Addr) (c1 c2 : Nat), RI W A1 n l → RI W A2 n l → Hid (Calls Try.prog 14 #[.slice A1 n c1, .slice A2 n c2] W fun e w' => e = .returned (.bool true) ∧ Below W.heap.size W w') := fun W A1 A2 c1 c2 h1 h2 => ints_r true A1 A2 n c1 n c2 l l W h1 h2 (by omega) (by omega) (by simp)
        have CW : ∀ (W : World) (A2 : Option Addr) (c2 : Nat), Below w.heap.size w W → RI W A2 n l → Hid (Calls Try.prog 22 #[.slice C n cc, .slice A2 n c2] W fun e w' => ∃ S sc gM, e = .returned (dval S n sc (some ⟨gM, 0, none⟩) (4 * n) (4 * n) 0) ∧ RI w' S n l ∧ RI w' (some ⟨gM, 0, none⟩) (4 * n) (mkM code l) ∧ Below W.heap.size W w') := fun W A2 c2 hb h => rdrawn_any A2 C n c2 cc code l W (hkp W hb) h (by omega) hIL hv hsg
        have CQ : ∀ (W : World) (A B S M : Option Addr) (cs cm sc mc : Nat), RI W A n l → RI W B (4 * n) (mkM code l) → RI W S n l → RI W M (4 * n) (mkM code l) → Hid (Calls Try.prog 21 #[dval A n cs B (4 * n) cm 0, dval S n sc M (4 * n) mc 0] W fun e w' => e = .returned (.bool true) ∧ Below W.heap.size W w') := fun W A B S M cs cm sc mc h1 h2 h3 h4 => by
          have := requal_any A B S M n cs (4 * n) cm n sc (4 * n) mc 0 0 l (mkM code l) l (mkM code l) W h1 h2 h3 h4 (by omega) (by omega) (by omega) (by omega)
          have e : eqD l (mkM code l) 0 l (mkM code l) 0 = true := by simp [eqD]
          rw [e] at this; exact this
        obtain ⟨m, hm⟩ : ∃ m, mkM code l = m := ⟨_, rfl⟩
        obtain ⟨nm, hnm⟩ : ∃ nm, 4 * n = nm := ⟨_, rfl⟩
        have HTL := Lib.hid htl
        have HLN := Lib.hid hln
        simp only [hm, hnm] at CD CW CQ
        clear hC hI hl hkp hIL hv hE hL hM hall hhead hS h14 h1 h2 h3 hsg hml hm hnm hpos htl hln
        go_enter Try.func5, Try.ntmps5
        go_upto_region 18 with (first
          | (go_at_call 10; ((with_reducible refine CA.out.mono ?_); rintro e w1 ⟨rfl, hb1⟩))
          | (go_at_call 18; ((with_reducible refine (CS _ hb1).out.mono ?_); rintro e w2 ⟨A2, c2, rfl, hr2, hb2⟩; have hb12 := below_step hb1 hb2))
          | (go_at_call 19; ((with_reducible refine (CD _ hb12).out.mono ?_); rintro e w3 ⟨A3, cs3, B3, cm3, rfl, hr3, hr3', hb3⟩; have hb13 := below_step (below_step hb12 hb3) (below_alloc w3 (dbox A3 n cs3 B3 nm cm3 0)); obtain ⟨x0, x1, x2, xlt⟩ := DB.new w3 A3 n cs3 B3 nm cm3 0))
          | (go_at_call 17; ((with_reducible refine (CR _ hb13).out.mono ?_); rintro e w4 ⟨rfl, rfl⟩))
          | (go_at_call 20; ((with_reducible refine (CL _ hb13).out.mono ?_); rintro e w5 ⟨v5, rfl, ho5, hb5⟩; obtain ⟨A5, c5, rfl, hro⟩ := ho5.ro; obtain ⟨b5, o5, rfl, hb5l⟩ := hro.at_ (Nat.zero_lt_succ _); obtain ⟨A6, n6, c6, hcel, hri⟩ := hro.el 0 (Nat.zero_lt_succ _); rw [Nat.add_zero] at hcel; obtain rfl : n6 = n := hri.1.symm.trans HLN.out; have y0 := (hb5.cell (p := ⟨w3.heap.size, 0, none⟩) xlt).trans x0; have y1 := (hb5.cell (p := ⟨w3.heap.size, 1, none⟩) xlt).trans x1; have y2 := (hb5.cell (p := ⟨w3.heap.size, 2, none⟩) xlt).trans x2; have ylt := Nat.lt_of_lt_of_le xlt hb5.size)))
        have hri' : RI w5 A6 n6 l := hri
        have hb25 := below_step (below_step hb3 (below_alloc w3 (dbox A3 n6 cs3 B3 nm cm3 0))) hb5
        have hS5 := hr2.keep hb25
        have hA5 := (hr3.keep (below_alloc w3 (dbox A3 n6 cs3 B3 nm cm3 0))).keep hb5
        have hB5 := (hr3'.keep (below_alloc w3 (dbox A3 n6 cs3 B3 nm cm3 0))).keep hb5
        have hb05 := below_step hb13 hb5
        have HRI := Lib.hid hri'
        have HS5 := Lib.hid hS5
        have HA5 := Lib.hid hA5
        have HB5 := Lib.hid hB5
        obtain ⟨gB, hgB⟩ : ∃ gB, w3.heap.size = gB := ⟨_, rfl⟩
        rw [hgB] at y0 y1 y2 ylt ⊢
        have hbD : Below w5.heap.size w5 w5.drew := (Below.refl _ _).drew
        clear hri hri' hb25 hS5 hA5 hB5 hr2 hr3 hr3' hro ho5 x0 x1 x2 xlt hb3 hb5 hgB
        go_region_held3 (fun w' => (w'.cell? ⟨gB, 0, none⟩ = some (.slice A3 n6 cs3) ∧ w'.cell? ⟨gB, 1, none⟩ = some (.slice B3 nm cm3) ∧ w'.cell? ⟨gB, 2, none⟩ = some (.int .i64 0)) ∧ w'.cell? ⟨b5, o5, none⟩ = some (.slice A6 n6 c6))
          (first
            | go_keep
            | exact ⟨⟨(hb8.cell (p := ⟨gB, 0, none⟩) ylt).trans y0, (hb8.cell (p := ⟨gB, 1, none⟩) ylt).trans y1, (hb8.cell (p := ⟨gB, 2, none⟩) ylt).trans y2⟩, (hb8.cell (p := ⟨b5, o5, none⟩) hb5l).trans hcel⟩
            | exact ⟨⟨(hb7.cell (p := ⟨gB, 0, none⟩) ylt).trans y0, (hb7.cell (p := ⟨gB, 1, none⟩) ylt).trans y1, (hb7.cell (p := ⟨gB, 2, none⟩) ylt).trans y2⟩, (hb7.cell (p := ⟨b5, o5, none⟩) hb5l).trans hcel⟩
            | exact ⟨⟨(hb6.cell (p := ⟨gB, 0, none⟩) ylt).trans y0, (hb6.cell (p := ⟨gB, 1, none⟩) ylt).trans y1, (hb6.cell (p := ⟨gB, 2, none⟩) ylt).trans y2⟩, (hb6.cell (p := ⟨b5, o5, none⟩) hb5l).trans hcel⟩)
          (first
            | (go_at_call 21; ((with_reducible refine (CQ _ _ _ _ _ _ _ _ _ (HA5.out.keep hb7) (HB5.out.keep hb7) h71 h72).out.mono ?_); rintro e w8 ⟨rfl, hb78⟩; have hb8 := below_step hb7 hb78))
            | (go_at_call 22; ((with_reducible refine (CW _ _ _ (below_step hb05 hb6) (HRI.out.keep hb6)).out.mono ?_); rintro e w7 ⟨S7, sc7, gM7, rfl, h71, h72, hb67⟩; have hb7 := below_step hb6 hb67))
            | (go_at_call 14; ((with_reducible refine (CI _ _ _ _ _ (HS5.out.keep hbD) (HRI.out.keep hbD)).out.mono ?_); rintro e w6 ⟨rfl, hbD6⟩; have hb6 := below_step hbD hbD6)))
        go_wp2
        go_ret
        exact ⟨rfl, below_step hb05 hb8⟩

end Go.Proofs.Ytambhopkacgddaa
