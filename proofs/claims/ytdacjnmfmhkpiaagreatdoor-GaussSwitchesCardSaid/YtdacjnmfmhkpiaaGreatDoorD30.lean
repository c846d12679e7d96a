import Derived.Test.YtdacjnmfmhkpiaaGreatDoorD20
import Derived.Test.YtdacjnmfmhkpiaaGreatDoorD22
import Derived.Test.YtdacjnmfmhkpiaaGreatDoorD28
import Derived.Test.YtdacjnmfmhkpiaaGreatDoorD29
import Derived.Test.YtdacjnmfmhkpiaaGreatDoorD27
/- Walk: the law GaussSwitches. -/
namespace Go.Proofs.YtdacjnmfmhkpiaaGreatDoor
open Go.ChangeShapes Go.WideShapes Go.ChangeAt Go.RowKit Go.Joins

/-- What holds between the rounds: both codes' boxes, the turned signs, the sequences so far. -/
def SwInv (wA : World) (gB gK gS ns pc cs : Nat) (S : Option Addr) (lp : Int) (s1 : List Int) (V1 V2 : List (List Vis)) (wr : World) (k : Nat) : Prop :=
  Below wA.heap.size wA wr ∧ gK < wr.heap.size ∧ OI wr wA.heap.size (.slice (some ⟨gS, 0, none⟩) ns pc) s1 ∧ (∀ i, wr.frozen? ⟨gB, i, none⟩ = false) ∧ (∀ i, wr.frozen? ⟨gK, i, none⟩ = false) ∧
  ∃ A1 c1 vals1 A2 c2 vals2, DB wr gB A1 k c1 (some ⟨gS, 0, none⟩) ns pc lp ∧ DB wr gK A2 k c2 S ns cs lp ∧ TwoR wr (gK + 1) 49 51 (.slice A1 k c1) vals1 (V1.take k) (.slice A2 k c2) vals2 (V2.take k)
theorem SwInv.keep {wA : World} {gB gK gS ns pc cs : Nat} {S : Option Addr} {lp : Int} {s1 : List Int} {V1 V2 : List (List Vis)} {wr wr' : World} {k : Nat} (h : SwInv wA gB gK gS ns pc cs S lp s1 V1 V2 wr k) (hb : Below wr.heap.size wr wr') (hA : wA.heap.size ≤ wr.heap.size) : SwInv wA gB gK gS ns pc cs S lp s1 V1 V2 wr' k := by
  obtain ⟨h1, h2, h3, h4, h5, A1, c1, vals1, A2, c2, vals2, h6, h7, h8⟩ := h
  exact ⟨h1.trans (hb.mono hA), Nat.lt_of_lt_of_le h2 hb.size, h3.keep hb, fun i => (hb.frozen (p := ⟨gB, i, none⟩) h6.2.2.2).trans (h4 i), fun i => (hb.frozen (p := ⟨gK, i, none⟩) h2).trans (h5 i), A1, c1, vals1, A2, c2, vals2, h6.keep hb, h7.keep hb, h8.keep hb⟩
theorem TwoR.nil (w : World) (B : Nat) (tr te : TypeId) : TwoR w B tr te (.slice none 0 0) [] [] (.slice none 0 0) [] [] :=
  ⟨⟨World.ownsRow_nil w B _ _, rfl, fun i hi => absurd hi (by simp)⟩, ⟨World.ownsRow_nil w B _ _, rfl, fun i hi => absurd hi (by simp)⟩, .inl rfl⟩

theorem own_block {w w' : World} {B n sz : Nat} {e : TypeId} {v : Value} {xs : List Value} (h : w.ownsRow B e sz v n xs) (hk : ∀ g, v.ownBlock = some g → w'.heap[g]? = w.heap[g]?) : w'.ownsRow B e sz v n xs := by
  refine ⟨h.1, ?_⟩
  rcases h.2 with h4 | ⟨g, cap, cur, h4, hg, hh, hr⟩
  · exact .inl h4
  · exact .inr ⟨g, cap, cur, h4, hg, by rw [hk g (by rw [h4]; rfl)]; exact hh, hr⟩
theorem cell_of_heap {W : World} {g : Nat} {u : Value} {t : TypeId} (hh : W.heap[g]? = some (.cells #[u] t (0, 0))) : W.cell? ⟨g, 0, none⟩ = some u := by simp [World.cell?, hh]
theorem cell_grown {W w' : World} {g : Nat} {u : Value} {t : TypeId} {row : Option Nat} (hh : W.heap[g]? = some (.cells #[u] t (0, 0))) (hg : W.grownBy w' row) (hr : ∀ j, row = some j → j ≠ g) : w'.cell? ⟨g, 0, none⟩ = some u := by
  refine cell_of_heap (t := t) ((hg.block g (Array.getElem?_eq_some_iff.1 hh).1 fun e => hr g e.symm rfl).trans hh)
theorem step_append_rowA {P : Program} {ops : Array Oper} {o : Oper} {a : Act} {w : World} {K : Act → World → Prop} {Q : Exit → Act → World → Prop} {E : Prop} (hgd : o.guard = none) (s x : Operand) (tt tr : TypeId) (z : Value) (bytes : Nat)
    (ho : o.op = .call { callee := .builtin .append, args := #[s, x], argTypes := #[tt, tt] }) (ht : P.underlying tt = some (.slice tr)) (hi : (P.info? tr).map (fun i => (i.zero, i.size, i.bytes)) = some (some z, 1, bytes)) (hz : z.cells.size = 1) (hby : bytes ≤ 24)
    (B : Nat) (v : Value) (vs : List Value) (hs : a.eval s = v) (hown : ownRow w B tr v vs) (g : Nat) (u : Value) (hx : a.eval x = .slice (some ⟨g, 0, none⟩) 1 1) (hc : w.cell? ⟨g, 0, none⟩ = some u) (hu : u.oneCell' = true) (hlen : vs.length ≤ 1000000) (hbase : B ≤ w.heap.size)
    (h : ∀ A' c' w', ownRow w' B tr (.slice A' (vs.length + 1) c') (vs ++ [u]) → w.grownBy w' v.ownBlock → ((Value.slice A' (vs.length + 1) c').ownBlock = v.ownBlock ∨ (Value.slice A' (vs.length + 1) c').ownBlock = some w.heap.size) → K (a.put o.dst (.slice A' (vs.length + 1) c')) w') :
    if Region.wanted o (yielded ops a.tmps) = true then Oper.wp P o a w K Q else E := by
  have hw : Region.wanted o (yielded ops a.tmps) = true := by simp [Region.wanted, hgd]
  rw [if_pos hw]
  obtain ⟨i0, hi0, hz0, hz1, hz2⟩ := info_parts hi
  have hb24 : (vs.length + 1) * bytes ≤ 140737488355328 := by
    have h1 : (vs.length + 1) * bytes ≤ 1000001 * 24 := Nat.mul_le_mul (by omega) hby
    omega
  obtain ⟨v', w', hrun, h1, h2, h3, hat⟩ := run_append_own_at (P := P) w B tt o.type tr i0 z 1 bytes ht hi0 hz0 hz1 hz2 hz (by decide) v vs.length vs hown ⟨g, 0, none⟩ 1 1 [u] rfl
    (fun j u' hj => by
      match j, hj with
      | 0, hj => simp at hj; subst hj; simpa [Addr.add] using hc)
    (fun u' hu' => by simp at hu'; subst hu'; exact hu) (by unfold maxLen; omega) hb24 hbase
  have h4 : ownRow w' B tr v' (vs ++ [u]) := by unfold ownRow; simpa using h1
  obtain ⟨A', c', rfl⟩ := h4.slice
  unfold Oper.wp execOp
  simp only [ho, resolve, invoke, builtin, Sem.run_bind, Sem.run_pure, Result.andThen_ok, List.map_toArray, List.map_cons, List.map_nil, hs, hx, hrun]
  have e : (vs ++ [u]).length = vs.length + 1 := by simp
  rw [e] at h4 hat ⊢
  exact h A' c' w' h4 h2 hat
theorem sw_round {wA wr wF : World} {gB gK gS ns pc cs k c5 c6 : Nat} {S A5 A6 : Option Addr} {lp : Int} {s1 : List Int} {V1 V2 : List (List Vis)} {l1 l2 : List Vis} {x5 x6 : List Value} (hI : SwInv wA gB gK gS ns pc cs S lp s1 V1 V2 wr k) (hBK : gB < gK) (hSK : gS < gK) (hSB : gS ≠ gB) (hAB : wA.heap.size ≤ gB) (hbF : Below (gK + 1) wr wF)
    (hT : TwoR wF (gK + 1) 49 51 (.slice A5 (k + 1) c5) x5 (V1.take k ++ [l1]) (.slice A6 (k + 1) c6) x6 (V2.take k ++ [l2])) (hk1 : V1.take (k + 1) = V1.take k ++ [l1]) (hk2 : V2.take (k + 1) = V2.take k ++ [l2]) :
    SwInv wA gB gK gS ns pc cs S lp s1 V1 V2 ((wF.setCell ⟨gB, 0, none⟩ (.slice A5 (k + 1) c5)).setCell ⟨gK, 0, none⟩ (.slice A6 (k + 1) c6)) (k + 1) := by
  obtain ⟨h1, h2, h3, h4, h5, A1, c1, vals1, A2, c2, vals2, ⟨b0, b1, b2, b3⟩, ⟨d0, d1, d2, d3⟩, _⟩ := hI
  have hlt : gK < wF.heap.size := Nat.lt_of_lt_of_le h2 hbF.size
  have hBKne : gB ≠ gK := by omega
  have cB : ∀ i u, wr.cell? ⟨gB, i, none⟩ = some u → wF.cell? ⟨gB, i, none⟩ = some u := fun i u h => (hbF.cell (p := ⟨gB, i, none⟩) (show gB < gK + 1 by omega)).trans h
  have cK : ∀ i u, wr.cell? ⟨gK, i, none⟩ = some u → wF.cell? ⟨gK, i, none⟩ = some u := fun i u h => (hbF.cell (p := ⟨gK, i, none⟩) (show gK < gK + 1 by omega)).trans h
  have fB : ∀ i, wF.frozen? ⟨gB, i, none⟩ = false := fun i => (hbF.frozen (p := ⟨gB, i, none⟩) (show gB < gK + 1 by omega)).trans (h4 i)
  have fK : ∀ i, wF.frozen? ⟨gK, i, none⟩ = false := fun i => (hbF.frozen (p := ⟨gK, i, none⟩) (show gK < gK + 1 by omega)).trans (h5 i)
  refine ⟨below_set (below_set (h1.trans (hbF.mono (by omega))) hAB _) (by omega) _, by simp [World.setCell]; exact hlt, ?_, fun i => by simp [fB], fun i => by simp [fK], A5, c5, x5, A6, c6, x6, ?_, ?_, ?_⟩
  · have ho : OI wF wA.heap.size (.slice (some ⟨gS, 0, none⟩) ns pc) s1 := own_block h3 fun g e => by
      have e2 : gS = g := Option.some.inj e
      exact hbF.block g (by omega)
    exact (ho.far (p := ⟨gB, 0, none⟩) (fun e => hSB (Option.some.inj e)) _).far (p := ⟨gK, 0, none⟩) (fun e => by have e2 : gS = gK := Option.some.inj e; omega) _
  · refine ⟨?_, ?_, ?_, by simp [World.setCell]; omega⟩
    · rw [World.cell?_setCell_other _ _ _ _ (fun e => hBKne (by injection e with e; exact e.symm))]; exact World.cell?_setCell_same _ _ _ (cB 0 _ b0)
    · rw [World.cell?_setCell_other _ _ _ _ (by simp), World.cell?_setCell_other _ _ _ _ (by simp)]; exact cB 1 _ b1
    · rw [World.cell?_setCell_other _ _ _ _ (by simp), World.cell?_setCell_other _ _ _ _ (by simp)]; exact cB 2 _ b2
  · have hk0 : (wF.setCell ⟨gB, 0, none⟩ (.slice A5 (k + 1) c5)).cell? ⟨gK, 0, none⟩ = some (.slice A2 k c2) := by
      rw [World.cell?_setCell_other _ _ _ _ (fun e => hBKne (by injection e with e))]; exact cK 0 _ d0
    refine ⟨World.cell?_setCell_same _ _ _ hk0, ?_, ?_, by simp [World.setCell]; exact hlt⟩
    · rw [World.cell?_setCell_other _ _ _ _ (by simp), World.cell?_setCell_other _ _ _ _ (by simp)]; exact cK 1 _ d1
    · rw [World.cell?_setCell_other _ _ _ _ (by simp), World.cell?_setCell_other _ _ _ _ (by simp)]; exact cK 2 _ d2
  · rw [hk1, hk2]
    exact (hT.set (p := ⟨gB, 0, none⟩) (by show gB < gK + 1; omega) _).set (p := ⟨gK, 0, none⟩) (by show gK < gK + 1; omega) _

theorem omade_box {wA w1 : World} {S : Option Addr} {sc ns g k : Nat} {s : List Int} {lp : Int} (hbx : BoxAt w1 g) (ho : OI w1 wA.heap.size (.slice S ns sc) s) (hk : (Value.slice S ns sc).ownBlock = some k) (hkd : k ≠ g) (hg : wA.heap.size ≤ g) (hb : Below wA.heap.size wA w1) :
    OMade wA s ns lp (.pointer (some ⟨g, 0, none⟩)) (set3 w1 g (.slice none 0 0) (.slice S ns sc) (.int .i64 lp)) :=
  omade3 ho (fun e => by rw [hk] at e; injection e with e; exact hkd e) hg hb hbx.1.2.2.2 hbx.1.1 hbx.1.2.1 hbx.1.2.2.1 hbx.2

set_option maxHeartbeats 6400000 in
set_option maxRecDepth 100000 in
theorem switches_walk (C S : Option Addr) (nc cc ns cs at_ : Nat) (lp : Int) (vss : List (List Vis)) (s : List Int) (w : World) (hC : RVV w C nc vss) (hS : RI w S ns s) (hns : ns ≤ 9223372036854775807) (hnc : nc ≤ 140737488351232) (hll : ∀ j, (vss.getD j []).length ≤ 140737488351232) (ht : TabW w) (hat : at_ ≤ 255) :
    Calls Tryz.prog 6 #[dval C nc cc S ns cs lp, .int .u8 (at_ : Int)] w fun e w' => e = .returned (.bool true) ∧ Below w.heap.size w w' := by
  have hd := DB.newT w C nc cc S ns cs lp 28
  have hb0 := below_alloc w (cbox C nc cc S ns cs lp)
  have HTW : ∀ W, Below w.heap.size w W → Hid (Calls Tryz.prog 12 #[] W fun e w' => e = .returned (.bool true) ∧ Below W.heap.size W w') := fun W hb => gawake_any W (ht.keep hb)
  have HD := Lib.hid hd
  obtain ⟨d0, d1, d2, dlt⟩ := hd
  cases hf : fewB vss ns nc with
  | false =>
    have CF : ∀ W, Below w.heap.size w W → Hid (Calls Tryz.prog 24 #[dval C nc cc S ns cs lp] W fun e w' => e = .returned (.bool false) ∧ Below W.heap.size W w') := fun W hb => few_all C S nc cc ns cs lp vss W (hC.keep hb) hns hnc hll false hf
    clear hf hC hS hns hnc hll ht HD
    go_enter Tryz.func6, Tryz.ntmps6
    go_wp2_with (first
      | (go_at_call 12; ((with_reducible refine (HTW _ hb02).out.mono ?_); rintro e w3 ⟨rfl, hb3⟩))
      | (go_at_call 12; ((with_reducible refine (HTW _ hb0).out.mono ?_); rintro e w1 ⟨rfl, hb1⟩; have hb01 := below_step hb0 hb1; have e0 := (hb1.cell (p := ⟨w.heap.size, 0, none⟩) dlt).trans d0; have e1 := (hb1.cell (p := ⟨w.heap.size, 1, none⟩) dlt).trans d1; have e2 := (hb1.cell (p := ⟨w.heap.size, 2, none⟩) dlt).trans d2))
      | (go_at_call 24; ((with_reducible refine (CF _ hb01).out.mono ?_); rintro e w2 ⟨rfl, hb2⟩; have hb02 := below_step hb01 hb2)))
    go_ret
    exact ⟨rfl, below_step hb02 hb3⟩
  | true =>
    have CF : ∀ W, Below w.heap.size w W → Hid (Calls Tryz.prog 24 #[dval C nc cc S ns cs lp] W fun e w' => e = .returned (.bool true) ∧ Below W.heap.size W w') := fun W hb => few_all C S nc cc ns cs lp vss W (hC.keep hb) hns hnc hll true hf
    obtain ⟨f1, f2, f3⟩ := fewB_out hf
    have hrl : ∀ j, (vss.getD j []).length ≤ 42 := fun j => by have := row_flat (vss := vss) j; omega
    have CGV : ∀ W : World, Below w.heap.size w W → Hid (Calls Tryz.prog 21 #[dval C nc cc S ns cs lp] W fun e w' => e = .returned (.bool (gvalB vss s lp)) ∧ Below W.heap.size W w') :=
      fun W hb => gvalid_any C S nc cc ns cs lp vss s W (hC.keep hb) (hS.keep hb) (by omega) (by omega) (by omega)
    have CG : ∀ (A : Option Addr) (c : Nat) (S' : Option Addr) (c' : Nat) (V : List (List Vis)) (s' : List Int) (W : World), RVV W A nc V → RI W S' ns s' → V.flatten.length ≤ 1000000 → Hid (Calls Tryz.prog 20 #[dval A nc c S' ns c' lp] W fun e w' => e = .returned (if gvalB V s' lp = true then .tuple #[.int .i64 (genC V s'), .int .i64 0] else .tuple #[.int .i64 0, .int .i64 1]) ∧ Below W.heap.size W w') :=
      fun A c S' c' V s' W h1 h2 h3 => gGenus_any A S' nc c ns c' lp V s' W h1 h2 (by omega) (by omega) h3
    have HC := Lib.hid hC
    have HS := Lib.hid hS
    clear hns hnc hll hf
    cases hv : gvalB vss s lp with
    | false =>
      rw [hv] at CGV
      clear hv ht hC hS hrl f1 f2 f3 CG
      go_enter Tryz.func6, Tryz.ntmps6
      go_wp2_with (first
        | (go_at_call 12; ((with_reducible refine (HTW _ hb03).out.mono ?_); rintro e w4 ⟨rfl, hb4⟩))
        | (go_at_call 12; ((with_reducible refine (HTW _ hb0).out.mono ?_); rintro e w1 ⟨rfl, hb1⟩; have hb01 := below_step hb0 hb1; obtain ⟨e0, e1, e2⟩ := HD.out.all hb1))
        | (go_at_call 24; ((with_reducible refine (CF _ hb01).out.mono ?_); rintro e w2 ⟨rfl, hb2⟩; have hb02 := below_step hb01 hb2; have hb12 := below_step hb1 hb2; obtain ⟨g0, g1, g2⟩ := HD.out.all hb12))
        | (go_at_call 21; ((with_reducible refine (CGV _ hb02).out.mono ?_); rintro e w3 ⟨rfl, hb3⟩; have hb03 := below_step hb02 hb3; have hb13 := below_step hb12 hb3; obtain ⟨k0, k1, k2⟩ := HD.out.all hb13)))
      go_ret
      exact ⟨rfl, below_step hb03 hb4⟩
    | true =>
      rw [hv] at CGV
      have hsl : s.length = ns := hS.1
      by_cases hn0 : ns = 0
      · subst hn0
        clear hv ht hC hS hrl f1 f2 f3 CG hsl
        go_enter Tryz.func6, Tryz.ntmps6
        go_wp2_with (first
          | (go_at_call 12; ((with_reducible refine (HTW _ hb03).out.mono ?_); rintro e w4 ⟨rfl, hb4⟩))
          | (go_at_call 12; ((with_reducible refine (HTW _ hb0).out.mono ?_); rintro e w1 ⟨rfl, hb1⟩; have hb01 := below_step hb0 hb1; obtain ⟨e0, e1, e2⟩ := HD.out.all hb1))
          | (go_at_call 24; ((with_reducible refine (CF _ hb01).out.mono ?_); rintro e w2 ⟨rfl, hb2⟩; have hb02 := below_step hb01 hb2; have hb12 := below_step hb1 hb2; obtain ⟨g0, g1, g2⟩ := HD.out.all hb12))
          | (go_at_call 21; ((with_reducible refine (CGV _ hb02).out.mono ?_); rintro e w3 ⟨rfl, hb3⟩; have hb03 := below_step hb02 hb3; have hb13 := below_step hb12 hb3; obtain ⟨k0, k1, k2⟩ := HD.out.all hb13)))
        go_ret
        exact ⟨rfl, below_step hb03 hb4⟩
      · obtain ⟨x, hx⟩ : ∃ x, at_ % ns = x := ⟨_, rfl⟩
        have hxn : x < ns := by rw [← hx]; exact Nat.mod_lt _ (by omega)
        have t1 : (at_ : Int).tmod (ns : Int) = ((x : Nat) : Int) := by rw [Int.tmod_eq_emod_of_nonneg (by omega), ← hx, Int.natCast_emod]
        have t1' : (at_ : Int) % (ns : Int) = ((x : Nat) : Int) := by rw [← Int.tmod_eq_emod_of_nonneg (by omega)]; exact t1
        have t2 : ((ns : Int) == 0) = false := by simp only [beq_eq_false_iff_ne, ne_eq]; omega
        have t3 : ¬ ns = 0 := hn0
        have t4 : (ns == 0) = false := by simp only [beq_eq_false_iff_ne, ne_eq]; omega
        have t5 : IntKind.i64.wrap (x : Int) = (x : Int) := IntWalk.i64_in _ (by omega)
        have t6 : IntKind.i64.wrap (at_ : Int) = (at_ : Int) := IntWalk.i64_in _ (by omega)
        have t7 : (x : Int) < (ns : Int) := by omega
        have t8 : (0 : Int) ≤ (x : Int) := Int.natCast_nonneg _
        have t9 : (0 : Int) ≤ (at_ : Int) := Int.natCast_nonneg _
        obtain ⟨gn, hgn⟩ : ∃ gn, genC vss s = gn := ⟨_, rfl⟩
        have hg0 : 0 ≤ gn := by obtain ⟨d, hd, _⟩ := genC_nat hv; omega
        obtain ⟨hsv, hsg⟩ := sw_genus (x := x) hv
        obtain ⟨hrv, hrg⟩ := rev_genus hv
        rw [hgn] at hsg hrg
        have CG0 : ∀ W : World, Below w.heap.size w W → Hid (Calls Tryz.prog 20 #[dval C nc cc S ns cs lp] W fun e w' => e = .returned (.tuple #[.int .i64 gn, .int .i64 0]) ∧ Below W.heap.size W w') := fun W hb => by
          have h := (CG C cc S cs vss s W (hC.keep hb) (hS.keep hb) (by omega)).out
          rw [if_pos hv, hgn] at h
          exact h
        have CG1 : ∀ (A : Option Addr) (c : Nat) (S' : Option Addr) (c' : Nat) (W : World), RVV W A nc (swC x vss) → RI W S' ns (swS s x) → Hid (Calls Tryz.prog 20 #[dval A nc c S' ns c' lp] W fun e w' => e = .returned (.tuple #[.int .i64 gn, .int .i64 0]) ∧ Below W.heap.size W w') := fun A c S' c' W h1 h2 => by
          have h := (CG A c S' c' _ _ W h1 h2 (by rw [sw_flat, List.length_map]; omega)).out
          rw [if_pos hsv, hsg] at h
          exact h
        have CG2 : ∀ (A : Option Addr) (c : Nat) (W : World), Below w.heap.size w W → RVV W A nc (revC vss) → Hid (Calls Tryz.prog 20 #[dval A nc c S ns cs lp] W fun e w' => e = .returned (.tuple #[.int .i64 gn, .int .i64 0]) ∧ Below W.heap.size W w') := fun A c W hb h1 => by
          have h := (CG A c S cs _ _ W h1 (hS.keep hb) (by rw [(rev_flat vss).length_eq]; omega)).out
          rw [if_pos hrv, hrg] at h
          exact h
        have hsx := sgn_cases (gval_out hv).2.1 (c := x) (by omega)
        have HSX := Lib.hid hsx
        have HSL := Lib.hid hsl
        have HRL := Lib.hid hrl
        clear hv ht hC hS CG hx hgn hsv hsg hrv hrg hsx hsl hrl f3
        go_enter Tryz.func6, Tryz.ntmps6
        go_upto_region 5 with (first
          | (go_at_call 12; ((with_reducible refine (HTW _ hb0).out.mono ?_); rintro e w1 ⟨rfl, hb1⟩; have hb01 := below_step hb0 hb1; obtain ⟨e0, e1, e2⟩ := HD.out.all hb1))
          | (go_at_call 24; ((with_reducible refine (CF _ hb01).out.mono ?_); rintro e w2 ⟨rfl, hb2⟩; have hb02 := below_step hb01 hb2; have hb12 := below_step hb1 hb2; obtain ⟨g0, g1, g2⟩ := HD.out.all hb12))
          | (go_at_call 21; ((with_reducible refine (CGV _ hb02).out.mono ?_); rintro e w3 ⟨rfl, hb3⟩; have hb03 := below_step hb02 hb3; have hb13 := below_step hb12 hb3; obtain ⟨k0, k1, k2⟩ := HD.out.all hb13))
          | (go_at_call 20; ((with_reducible refine (CG0 _ hb03).out.mono ?_); rintro e w4 ⟨rfl, hb4⟩; have hb04 := below_step hb03 hb4; have hb14 := below_step hb13 hb4; obtain ⟨m0, m1, m2⟩ := HD.out.all hb14)))
        have HDA := Lib.hid (HD.out.keep hb14)
        have hs1 : RI w4 S ns s := HS.out.keep hb04
        have dltA : w.heap.size < w4.heap.size := (HD.out.keep hb14).2.2.2
        clear e0 e1 e2 g0 g1 g2 k0 k1 k2 hb1 hb2 hb3 hb4 hb01 hb02 hb03 hb12 hb13 hb14 d0 d1 d2 dlt CF CGV CG0 HTW HD hb0
        generalize w4 = wA at *
        have HSA : Hid (SAt wA w.heap.size (.slice S ns cs) (.int .i64 lp)) := Lib.hid ⟨⟨m1, m2⟩, dltA⟩
        have hn0' : wA.heap.size ≠ w.heap.size := by omega
        have hn1 : wA.heap.size + 1 ≠ w.heap.size := by omega
        have K1 : Hid (∀ o1, (wA.alloc o1).drew.cell? ⟨w.heap.size, 1, none⟩ = some (.slice S ns cs) ∧ (wA.alloc o1).drew.cell? ⟨w.heap.size, 2, none⟩ = some (.int .i64 lp)) := fun o1 => (HSA.out.keep (pre_b1 wA o1)).1
        have K2 : Hid (∀ o1 o2, ((wA.alloc o1).alloc o2).drew.cell? ⟨w.heap.size, 1, none⟩ = some (.slice S ns cs) ∧ ((wA.alloc o1).alloc o2).drew.cell? ⟨w.heap.size, 2, none⟩ = some (.int .i64 lp)) := fun o1 o2 => (HSA.out.keep (pre_b2 wA o1 o2)).1
        clear m0
        go_cut [8] (fun v wX => OMade wA s ns lp v wX)
        case first =>
          go_region_held3 (fun w' => w'.cell? ⟨w.heap.size, 1, none⟩ = some (.slice S ns cs) ∧ w'.cell? ⟨w.heap.size, 2, none⟩ = some (.int .i64 lp))
            (first
              | with_reducible exact K2.out _ _
              | with_reducible exact K1.out _
              | with_reducible exact hS1.st
              | with_reducible exact (SAt.al hS1 _).st
              | with_reducible exact (SAt.set hS1 (by assumption) _ _ _).st
              | go_keep)
            (first
              | (refine step_append_new rfl (.tmp 50) (.tmp 52) rfl wA.heap.size (wA.heap.size) (by rfl) (by exact heap_alloc_new wA _) (by exact Nat.le_refl _) S ns cs s (by rfl) (by exact (hs1.alloc _).drew) (by omega) ?_; intro A1 c1 w1 k1 ho1 hk1 hat1 hkl1 hgr1; have hbB : Below wA.heap.size wA w1 := pre_below (W := (wA.alloc (.cells #[] 3)).drew) hgr1 (pre_b1 wA _) (Nat.le_refl _); have hS1 : SAt w1 w.heap.size (.slice S ns cs) (.int .i64 lp) := (HSA.out).keep hbB; have hn3 := hS1.ne)
              | (refine step_append_new rfl (.tmp 50) (.tmp 52) rfl wA.heap.size (wA.heap.size) (by rfl) (by exact heap_two0 wA _ _) (by exact Nat.le_refl _) S ns cs s (by rfl) (by exact ((hs1.alloc _).alloc _).drew) (by omega) ?_; intro A1 c1 w1 k1 ho1 hk1 hat1 hkl1 hgr1; have hbB : Below wA.heap.size wA w1 := pre_below (W := ((wA.alloc (.cells #[] 3)).alloc (.cells #[.slice none 0 0, .slice none 0 0, .int .i64 0] 28)).drew) hgr1 (pre_b2 wA _ _) (Nat.le_refl _); have hS1 : SAt w1 w.heap.size (.slice S ns cs) (.int .i64 lp) := (HSA.out).keep hbB; have hn3 := hS1.ne; have hbx : BoxAt w1 (wA.heap.size + 1) := pre_box (W := ((wA.alloc (.cells #[] 3)).alloc (.cells #[.slice none 0 0, .slice none 0 0, .int .i64 0] 28)).drew) (heap_two1 wA _ _) hgr1 (by omega); have hkd : k1 ≠ wA.heap.size + 1 := pre_ne hat1 (by omega) (by simp <;> omega); have q0 := hbx.1.1; have q1 := hbx.1.2.1; have q2 := hbx.1.2.2.1; have f0 := hbx.2 0; have f1 := hbx.2 1; have f2 := hbx.2 2)
              | (refine step_append_new rfl (.tmp 50) (.tmp 52) rfl wA.heap.size (wA.heap.size + 1) (by rfl) (by exact heap_two1 wA _ _) (by exact Nat.le_succ _) S ns cs s (by rfl) (by exact ((hs1.alloc _).alloc _).drew) (by omega) ?_; intro A1 c1 w1 k1 ho1 hk1 hat1 hkl1 hgr1; have hbB : Below wA.heap.size wA w1 := pre_below (W := ((wA.alloc (.cells #[.slice none 0 0, .slice none 0 0, .int .i64 0] 28)).alloc (.cells #[] 3)).drew) hgr1 (pre_b2 wA _ _) (Nat.le_succ _); have hS1 : SAt w1 w.heap.size (.slice S ns cs) (.int .i64 lp) := (HSA.out).keep hbB; have hn3 := hS1.ne; have hbx : BoxAt w1 (wA.heap.size) := pre_box (W := ((wA.alloc (.cells #[.slice none 0 0, .slice none 0 0, .int .i64 0] 28)).alloc (.cells #[] 3)).drew) (heap_two0 wA _ _) hgr1 (by omega); have hkd : k1 ≠ wA.heap.size := pre_ne hat1 (by omega) (by simp <;> omega); have q0 := hbx.1.1; have q1 := hbx.1.2.1; have q2 := hbx.1.2.2.1; have f0 := hbx.2 0; have f1 := hbx.2 1; have f2 := hbx.2 2))
          all_goals go_wp2_with fail
          all_goals go_meet
          all_goals first
            | with_reducible exact omade1T _ ho1 hbB
            | (with_reducible refine omade_box hbx ho1 hk1 hkd ?_ hbB; omega)
        case rest =>
          obtain ⟨gB, P, pc, rfl, hgB, hcb, hcf, hoP, hPne, hbX⟩ := hcut
          obtain ⟨gS, capS, hPe⟩ := hoP.form_pos HSL.out (by omega)
          injection hPe with hPe1 _ hPe3
          subst hPe1
          subst hPe3
          have hSB : gS ≠ gB := fun e => hPne (by rw [e]; rfl)
          have hgS : wA.heap.size ≤ gS ∧ gS < wc.heap.size := World.ownsRow.lt hoP gS rfl
          obtain ⟨curS, hcurS⟩ := hoP.type (g := gS) rfl
          have fS := frozen_of_row wc gS x curS 3 hcurS
          have cS := hoP.cell x (by rw [HSL.out]; exact hxn)
          have hset := hoP.set_ HSL.out x (-(s.getD x 0))
          rw [show s.set x (-(s.getD x 0)) = swS s x from rfl] at hset
          have hsx := HSX.out
          have HDC := Lib.hid (HDA.out.keep hbX)
          obtain ⟨u0, u1, u2⟩ := HDA.out.all hbX
          have hgB0 := hcb
          obtain ⟨b0, b1, b2, blt⟩ := hcb
          obtain ⟨sx, hsxe⟩ : ∃ sx, s.getD x 0 = sx := ⟨_, rfl⟩
          rw [hsxe] at hset hsx cS
          have hneg : IntKind.i64.wrap (-sx) = -sx := IntWalk.i64_in _ (by omega)
          have HOS := Lib.hid hset.1
          have HGS := Lib.hid hset.2
          have HCF := Lib.hid hcf
          have HBX := Lib.hid hbX
          have HDB := Lib.hid hgB0
          clear K1 K2 HSA hn0' hn1 hcurS hset hoP hPne hsxe hsx m1 m2 hcf hbX hgB0
          go_upto_region 6 with fail
          go_region
          go_upto_region 7 with fail
          have hBS : gB ≠ gS := fun e => hSB e.symm
          have hD1 : Below wA.heap.size wA (wc.setCell ⟨gS, x, none⟩ (.int .i64 (-sx))).drew := (below_set HBX.out hgS.1 _).drew
          have hOSd := HOS.out.keep (Below.refl _ _).drew
          have hDBd := (HDB.out.grown HGS.out hBS).keep (Below.refl _ _).drew
          have hFd : ∀ i, (wc.setCell ⟨gS, x, none⟩ (.int .i64 (-sx))).drew.frozen? ⟨gB, i, none⟩ = false := fun i => froz_grown blt HCF.out HGS.out hBS i
          generalize (wc.setCell ⟨gS, x, none⟩ (.int .i64 (-sx))).drew = wD at *
          have hSlt := (World.ownsRow.lt hOSd gS rfl).2
          have hBlt := hDBd.2.2.2
          obtain ⟨e0, e1, e2⟩ := HDA.out.all hD1
          have hn := DB.newT wD none 0 0 S ns cs lp 28
          have hnf : ∀ i, (wD.alloc (.cells #[.slice none 0 0, .slice S ns cs, .int .i64 lp] 28)).frozen? ⟨wD.heap.size, i, none⟩ = false := fun i => World.frozen?_alloc_at _ _ _ _ rfl
          have hbE := below_alloc wD (.cells #[.slice none 0 0, .slice S ns cs, .int .i64 lp] 28)
          have hszE := heap_sz wD (.cells #[.slice none 0 0, .slice S ns cs, .int .i64 lp] 28)
          obtain ⟨gK, hgK⟩ : ∃ gK, wD.heap.size = gK := ⟨_, rfl⟩
          have hszA := hD1.size
          have hI0 : SwInv wA gB wD.heap.size gS ns pc cs S lp (swS s x) (swC x vss) (revC vss) (wD.alloc (.cells #[.slice none 0 0, .slice S ns cs, .int .i64 lp] 28)) 0 :=
            ⟨hD1.trans (hbE.mono hszA), hn.2.2.2, hOSd.keep hbE, fun i => (hbE.frozen (p := ⟨gB, i, none⟩) hBlt).trans (hFd i), hnf, none, 0, [], none, 0, [], hDBd.keep hbE, hn, TwoR.nil _ _ _ _⟩
          have HGK := Lib.hid hgK
          have HI0 := Lib.hid hI0
          clear hn hnf hI0 hOSd hDBd hFd HOS HDB HGS HCF HBX b0 b1 b2 blt cS fS u0 u1 u2 HDC hneg hbE hgK
          go_upto_region 8 with fail
          rw [HGK.out]
          rw [HGK.out] at HI0 hszE hBlt hSlt hszA
          generalize wD.alloc (.cells #[.slice none 0 0, .slice S ns cs, .int .i64 lp] 28) = wE at *
          have hI0 := HI0.out
          obtain ⟨x0, x1, x2⟩ := HDA.out.all hI0.1
          clear e0 e1 e2
          go_wp2
          go_loopw [11, 12, 13, 14, 15, 75] (fun _ _ _ _ _ i wr => ∃ k : Nat, k ≤ nc ∧ i = .int .i64 k ∧ SwInv wA gB gK gS ns pc cs S lp (swS s x) (swC x vss) (revC vss) wr k) (fun _ _ _ _ _ i _ => nc - (intOf i).toNat)
          case atStart => exact ⟨0, by omega, rfl, HI0.out⟩
          case round =>
            obtain ⟨k, hk, rfl, hI⟩ := hrel
            have hk0 : (0 : Int) ≤ (k : Int) := Int.natCast_nonneg _
            have hbr' := hI.1
            have hszr := hbr'.size
            have HI := Lib.hid hI
            by_cases hlt : k < nc
            · obtain ⟨bC, oC, hCe, hbC, hcc⟩ := HC.out.2 (by omega)
              subst hCe
              obtain ⟨A1, n1, c1, hcel0, hrv⟩ := hcc k hlt
              have hcel := ((below_step hb04 hbr').cell (p := ⟨bC, oC + k, none⟩) hbC).trans hcel0
              have hk1 : (k : Int) < (nc : Int) := by omega
              have hkl : k < vss.length := by rw [HC.out.1]; exact hlt
              have hl1 := HRL.out k
              obtain ⟨l, hl⟩ : ∃ l, vss.getD k [] = l := ⟨_, rfl⟩
              rw [hl] at hrv hl1
              have hln := hrv.1
              rw [hln] at hl1
              have HRV := Lib.hid (hrv.keep (below_step hb04 hbr'))
              have HLN := Lib.hid hln
              have HL := Lib.hid hl
              have HL1 : Hid ((l.map (swV x)).length = n1) := Lib.hid (by rw [List.length_map, hln])
              have HL2 : Hid (l.reverse.length = n1) := Lib.hid (by rw [List.length_reverse, hln])
              obtain ⟨Bi, hBi⟩ : ∃ Bi, wr.heap.size = Bi := ⟨_, rfl⟩
              have hBr : Below Bi wr wr := Below.refl _ _
              obtain ⟨wC, hwC⟩ : ∃ wC : World, wC = wr := ⟨_, rfl⟩
              subst hwC
              have hv1 : Two wC Bi 51 2 (.slice none 0 0) 0 (vcells ((l.map (swV x)).take 0)) (.slice none 0 0) 0 (vcells (l.reverse.take 0)) := Two.nil _ _ _ _
              obtain ⟨i0, hi, hz0, hz1, hz2⟩ := info_parts Tryz.infoVis
              have HBI := Lib.hid hBi
              have HBR := Lib.hid hbr'
              clear hcc hrv hcel0 hln hl hBi hI hbr'
              go_wp2
              go_loopw [12, 13, 14, 15, 81] (fun va vb _ _ i wr => ∃ q : Nat, q ≤ n1 ∧ i = .int .i64 q ∧ Below Bi wC wr ∧ Two wr Bi 51 2 va q (vcells ((l.map (swV x)).take q)) vb q (vcells (l.reverse.take q))) (fun _ _ _ _ i _ => n1 - (intOf i).toNat)
              case atStart => exact ⟨0, by omega, rfl, hBr, hv1⟩
              case round =>
                obtain ⟨q, hq, rfl, hbq, htwo⟩ := hrel
                have hq0 : (0 : Int) ≤ (q : Int) := Int.natCast_nonneg _
                have hbq' : Below wC.heap.size wC wr := by rw [HBI.out]; exact hbq
                by_cases hql : q < n1
                · obtain ⟨b1, o1, hAe, hb1, hcv⟩ := HRV.out.2 (by omega)
                  subst hAe
                  obtain ⟨hz0', hz1'⟩ := hcv q hql
                  obtain ⟨p, hp⟩ : ∃ p, n1 - 1 - q = p := ⟨_, rfl⟩
                  have hpn : p < n1 := by omega
                  obtain ⟨hz2', hz3'⟩ := hcv p hpn
                  have y1 : IntKind.i64.wrap ((n1 : Int) - 1) = (n1 : Int) - 1 := IntWalk.i64_in _ (by omega)
                  have y2 : IntKind.i64.wrap ((n1 : Int) - 1 - (q : Int)) = (p : Int) := by rw [IntWalk.i64_in _ (by omega)]; omega
                  have y2' : (n1 : Int) - 1 - (q : Int) = (p : Int) := by omega
                  have y3 : IntKind.i64.wrap (p : Int) = (p : Int) := IntWalk.i64_in _ (by omega)
                  have y4 : (p : Int) < (n1 : Int) := by omega
                  have y5 : (0 : Int) ≤ (p : Int) := Int.natCast_nonneg _
                  have hq1 : (q : Int) < (n1 : Int) := by omega
                  have htk1 := take_succ_getD (l.map (swV x)) v0 q (by rw [HL1.out]; exact hql)
                  have htk2 := take_succ_getD l.reverse v0 q (by rw [HL2.out]; exact hql)
                  have hll := HLN.out
                  have e1 : (l.map (swV x)).getD q v0 = swV x (l.getD q v0) := by simp [List.getD, show q < l.length by omega]
                  have e2 : l.reverse.getD q v0 = l.getD p v0 := by
                    have h1 : q < l.length := by omega
                    have h2 : l.length - 1 - q < l.length := by omega
                    rw [show p = l.length - 1 - q by omega]
                    simp [List.getD, h1, h2, List.getElem_reverse]
                  obtain ⟨u, hu⟩ : ∃ u, l.getD q v0 = u := ⟨_, rfl⟩
                  obtain ⟨v, hv⟩ : ∃ v, l.getD p v0 = v := ⟨_, rfl⟩
                  rw [hu] at hz0' hz1' e1
                  rw [hv] at hz2' hz3' e2
                  have hvc1 : vcells ((l.map (swV x)).take (q + 1)) = vcells ((l.map (swV x)).take q) ++ [.int .i64 (swV x u).1, .bool (swV x u).2] := by rw [htk1, e1, vcells_snoc]
                  have hvc2 : vcells (l.reverse.take (q + 1)) = vcells (l.reverse.take q) ++ [.int .i64 v.1, .bool v.2] := by rw [htk2, e2, vcells_snoc]
                  obtain ⟨uc, uo⟩ := u
                  obtain ⟨vc, vo⟩ := v
                  have hsw : swV x (uc, uo) = (uc, uo != (uc == (x : Int))) := rfl
                  rw [hsw] at hvc1
                  simp only at hz0' hz1' hz2' hz3' hvc1 hvc2
                  have z0 := (hbq'.cell (p := ⟨b1, o1 + q * 2, none⟩) hb1).trans hz0'
                  have z1 := (hbq'.cell (p := ⟨b1, o1 + q * 2 + 1, none⟩) hb1).trans hz1'
                  have HT := Lib.hid htwo
                  have HVC2 := Lib.hid hvc2
                  have hsq : Bi ≤ wr.heap.size := by have := hbq'.size; have := HBI.out; omega
                  clear hcv hp htk1 htk2 hll e1 e2 hu hv hvc2 hsw htwo hz0' hz1'
                  by_cases hux : uc = (x : Int)
                  · subst hux
                    have hbe : ((x : Int) == (x : Int)) = true := by simp
                    rw [hbe] at hvc1
                    clear hbe
                    cases uo with
                    | true =>
                      have HVC1 := Lib.hid hvc1
                      clear hvc1
                      go_wp2_with (first
                        | (at_builtin
                           refine wpList_append_own_at _ rfl (.tmp 99) (.tmp 108) 49 rfl Bi 51 i0 (.agg #[.int .i64 0, .bool false]) 2 16 Tryz.underlying49 hi hz0 hz1 hz2 rfl (by decide) _ q (vcells (l.reverse.take q)) rfl (hT3.keep (below_alloc w3 (.cells #[.int .i64 vc, .bool vo] 51))).b _ 1 1 [.int .i64 vc, .bool vo] rfl rfl (one_cells _ _ _ _) ?d2 ?d3 ?d4 ?d5 ?_
                           case d2 => (intro u hu; simp at hu; rcases hu with rfl | rfl <;> rfl)
                           case d3 => (unfold maxLen; omega)
                           case d4 => omega
                           case d5 => (simp; omega)
                           intro v4 w4 hown4 hg4 _ hat4
                           have hT4 := ((hT3.keep (below_alloc w3 (.cells #[.int .i64 vc, .bool vo] 51))).swap.app hown4 hg4 hat4).swap
                           have hb4 : Below Bi wC w4 := (hb3.alloc hs3 _).grown hg4 (by simp; omega) (fun k hk => (World.ownsRow.lt hT3.b k hk).1))
                        | (at_builtin
                           refine wpList_append_own_at _ rfl (.tmp 86) (.tmp 97) 49 rfl Bi 51 i0 (.agg #[.int .i64 0, .bool false]) 2 16 Tryz.underlying49 hi hz0 hz1 hz2 rfl (by decide) _ q (vcells ((l.map (swV x)).take q)) rfl (HT.out.keep (below_step (below_alloc wr (.cells #[.int .i64 (x : Int), .bool true] 51)) (below_alloc _ (.cells #[.int .i64 (x : Int), .bool false] 51)))).a _ 1 1 [.int .i64 (x : Int), .bool false] rfl rfl (two_cells _ _ _ _ _) ?c2 ?c3 ?c4 ?c5 ?_
                           case c2 => (intro u hu; simp at hu; rcases hu with rfl | rfl <;> rfl)
                           case c3 => (unfold maxLen; omega)
                           case c4 => omega
                           case c5 => (simp; omega)
                           intro v3 w3 hown3 hg3 _ hat3
                           have hT3 := (HT.out.keep (below_step (below_alloc wr (.cells #[.int .i64 (x : Int), .bool true] 51)) (below_alloc _ (.cells #[.int .i64 (x : Int), .bool false] 51)))).app hown3 hg3 hat3
                           have hb3 : Below Bi wC w3 := ((hbq.alloc hsq _).alloc (by simp; omega) _).grown hg3 (by simp; omega) (fun k hk => (World.ownsRow.lt HT.out.a k hk).1)
                           have hb3' : Below wC.heap.size wC w3 := by rw [HBI.out]; exact hb3
                           have hs3 : Bi ≤ w3.heap.size := by rw [← HBI.out]; exact hb3'.size
                           have z4 := (hb3'.cell (p := ⟨b1, o1 + p * 2, none⟩) hb1).trans hz2'
                           have z5 := (hb3'.cell (p := ⟨b1, o1 + p * 2 + 1, none⟩) hb1).trans hz3'))
                      have HT4 : Hid (Two w4 Bi 51 2 v3 (q + 1) (vcells ((l.map (swV x)).take (q + 1))) v4 (q + 1) (vcells (l.reverse.take (q + 1)))) := Lib.hid (by rw [HVC1.out, HVC2.out]; exact hT4)
                      clear hT4 hT3 hown3 hown4 hg3 hg4 hat3 hat4
                      go_roundw
                      case rel => exact ⟨q + 1, by omega, by go_num, hb4, HT4.out⟩
                      case measure => simp [intOf]; omega
                    | false =>
                      have HVC1 := Lib.hid hvc1
                      clear hvc1
                      go_wp2_with (first
                        | (at_builtin
                           refine wpList_append_own_at _ rfl (.tmp 99) (.tmp 108) 49 rfl Bi 51 i0 (.agg #[.int .i64 0, .bool false]) 2 16 Tryz.underlying49 hi hz0 hz1 hz2 rfl (by decide) _ q (vcells (l.reverse.take q)) rfl (hT3.keep (below_alloc w3 (.cells #[.int .i64 vc, .bool vo] 51))).b _ 1 1 [.int .i64 vc, .bool vo] rfl rfl (one_cells _ _ _ _) ?d2 ?d3 ?d4 ?d5 ?_
                           case d2 => (intro u hu; simp at hu; rcases hu with rfl | rfl <;> rfl)
                           case d3 => (unfold maxLen; omega)
                           case d4 => omega
                           case d5 => (simp; omega)
                           intro v4 w4 hown4 hg4 _ hat4
                           have hT4 := ((hT3.keep (below_alloc w3 (.cells #[.int .i64 vc, .bool vo] 51))).swap.app hown4 hg4 hat4).swap
                           have hb4 : Below Bi wC w4 := (hb3.alloc hs3 _).grown hg4 (by simp; omega) (fun k hk => (World.ownsRow.lt hT3.b k hk).1))
                        | (at_builtin
                           refine wpList_append_own_at _ rfl (.tmp 86) (.tmp 97) 49 rfl Bi 51 i0 (.agg #[.int .i64 0, .bool false]) 2 16 Tryz.underlying49 hi hz0 hz1 hz2 rfl (by decide) _ q (vcells ((l.map (swV x)).take q)) rfl (HT.out.keep (below_step (below_alloc wr (.cells #[.int .i64 (x : Int), .bool false] 51)) (below_alloc _ (.cells #[.int .i64 (x : Int), .bool true] 51)))).a _ 1 1 [.int .i64 (x : Int), .bool true] rfl rfl (two_cells _ _ _ _ _) ?c2 ?c3 ?c4 ?c5 ?_
                           case c2 => (intro u hu; simp at hu; rcases hu with rfl | rfl <;> rfl)
                           case c3 => (unfold maxLen; omega)
                           case c4 => omega
                           case c5 => (simp; omega)
                           intro v3 w3 hown3 hg3 _ hat3
                           have hT3 := (HT.out.keep (below_step (below_alloc wr (.cells #[.int .i64 (x : Int), .bool false] 51)) (below_alloc _ (.cells #[.int .i64 (x : Int), .bool true] 51)))).app hown3 hg3 hat3
                           have hb3 : Below Bi wC w3 := ((hbq.alloc hsq _).alloc (by simp; omega) _).grown hg3 (by simp; omega) (fun k hk => (World.ownsRow.lt HT.out.a k hk).1)
                           have hb3' : Below wC.heap.size wC w3 := by rw [HBI.out]; exact hb3
                           have hs3 : Bi ≤ w3.heap.size := by rw [← HBI.out]; exact hb3'.size
                           have z4 := (hb3'.cell (p := ⟨b1, o1 + p * 2, none⟩) hb1).trans hz2'
                           have z5 := (hb3'.cell (p := ⟨b1, o1 + p * 2 + 1, none⟩) hb1).trans hz3'))
                      have HT4 : Hid (Two w4 Bi 51 2 v3 (q + 1) (vcells ((l.map (swV x)).take (q + 1))) v4 (q + 1) (vcells (l.reverse.take (q + 1)))) := Lib.hid (by rw [HVC1.out, HVC2.out]; exact hT4)
                      clear hT4 hT3 hown3 hown4 hg3 hg4 hat3 hat4
                      go_roundw
                      case rel => exact ⟨q + 1, by omega, by go_num, hb4, HT4.out⟩
                      case measure => simp [intOf]; omega
                  · have hbe : (uc == (x : Int)) = false := by simp only [beq_eq_false_iff_ne, ne_eq]; exact hux
                    have hde : decide (uc = (x : Int)) = false := by simp only [decide_eq_false_iff_not]; exact hux
                    rw [hbe] at hvc1
                    cases uo with
                    | true =>
                      have HVC1 := Lib.hid hvc1
                      clear hvc1
                      go_wp2_with (first
                        | (at_builtin
                           refine wpList_append_own_at _ rfl (.tmp 99) (.tmp 108) 49 rfl Bi 51 i0 (.agg #[.int .i64 0, .bool false]) 2 16 Tryz.underlying49 hi hz0 hz1 hz2 rfl (by decide) _ q (vcells (l.reverse.take q)) rfl (hT3.keep (below_alloc w3 (.cells #[.int .i64 vc, .bool vo] 51))).b _ 1 1 [.int .i64 vc, .bool vo] rfl rfl (one_cells _ _ _ _) ?d2 ?d3 ?d4 ?d5 ?_
                           case d2 => (intro u hu; simp at hu; rcases hu with rfl | rfl <;> rfl)
                           case d3 => (unfold maxLen; omega)
                           case d4 => omega
                           case d5 => (simp; omega)
                           intro v4 w4 hown4 hg4 _ hat4
                           have hT4 := ((hT3.keep (below_alloc w3 (.cells #[.int .i64 vc, .bool vo] 51))).swap.app hown4 hg4 hat4).swap
                           have hb4 : Below Bi wC w4 := (hb3.alloc hs3 _).grown hg4 (by simp; omega) (fun k hk => (World.ownsRow.lt hT3.b k hk).1))
                        | (at_builtin
                           refine wpList_append_own_at _ rfl (.tmp 86) (.tmp 97) 49 rfl Bi 51 i0 (.agg #[.int .i64 0, .bool false]) 2 16 Tryz.underlying49 hi hz0 hz1 hz2 rfl (by decide) _ q (vcells ((l.map (swV x)).take q)) rfl (HT.out.keep (below_step (below_alloc wr (.cells #[.int .i64 uc, .bool true] 51)) (below_alloc _ (.cells #[.int .i64 uc, .bool true] 51)))).a _ 1 1 [.int .i64 uc, .bool true] rfl rfl (two_cells _ _ _ _ _) ?c2 ?c3 ?c4 ?c5 ?_
                           case c2 => (intro u hu; simp at hu; rcases hu with rfl | rfl <;> rfl)
                           case c3 => (unfold maxLen; omega)
                           case c4 => omega
                           case c5 => (simp; omega)
                           intro v3 w3 hown3 hg3 _ hat3
                           have hT3 := (HT.out.keep (below_step (below_alloc wr (.cells #[.int .i64 uc, .bool true] 51)) (below_alloc _ (.cells #[.int .i64 uc, .bool true] 51)))).app hown3 hg3 hat3
                           have hb3 : Below Bi wC w3 := ((hbq.alloc hsq _).alloc (by simp; omega) _).grown hg3 (by simp; omega) (fun k hk => (World.ownsRow.lt HT.out.a k hk).1)
                           have hb3' : Below wC.heap.size wC w3 := by rw [HBI.out]; exact hb3
                           have hs3 : Bi ≤ w3.heap.size := by rw [← HBI.out]; exact hb3'.size
                           have z4 := (hb3'.cell (p := ⟨b1, o1 + p * 2, none⟩) hb1).trans hz2'
                           have z5 := (hb3'.cell (p := ⟨b1, o1 + p * 2 + 1, none⟩) hb1).trans hz3'))
                      have HT4 : Hid (Two w4 Bi 51 2 v3 (q + 1) (vcells ((l.map (swV x)).take (q + 1))) v4 (q + 1) (vcells (l.reverse.take (q + 1)))) := Lib.hid (by rw [HVC1.out, HVC2.out]; exact hT4)
                      clear hT4 hT3 hown3 hown4 hg3 hg4 hat3 hat4
                      go_roundw
                      case rel => exact ⟨q + 1, by omega, by go_num, hb4, HT4.out⟩
                      case measure => simp [intOf]; omega
                    | false =>
                      have HVC1 := Lib.hid hvc1
                      clear hvc1
                      go_wp2_with (first
                        | (at_builtin
                           refine wpList_append_own_at _ rfl (.tmp 99) (.tmp 108) 49 rfl Bi 51 i0 (.agg #[.int .i64 0, .bool false]) 2 16 Tryz.underlying49 hi hz0 hz1 hz2 rfl (by decide) _ q (vcells (l.reverse.take q)) rfl (hT3.keep (below_alloc w3 (.cells #[.int .i64 vc, .bool vo] 51))).b _ 1 1 [.int .i64 vc, .bool vo] rfl rfl (one_cells _ _ _ _) ?d2 ?d3 ?d4 ?d5 ?_
                           case d2 => (intro u hu; simp at hu; rcases hu with rfl | rfl <;> rfl)
                           case d3 => (unfold maxLen; omega)
                           case d4 => omega
                           case d5 => (simp; omega)
                           intro v4 w4 hown4 hg4 _ hat4
                           have hT4 := ((hT3.keep (below_alloc w3 (.cells #[.int .i64 vc, .bool vo] 51))).swap.app hown4 hg4 hat4).swap
                           have hb4 : Below Bi wC w4 := (hb3.alloc hs3 _).grown hg4 (by simp; omega) (fun k hk => (World.ownsRow.lt hT3.b k hk).1))
                        | (at_builtin
                           refine wpList_append_own_at _ rfl (.tmp 86) (.tmp 97) 49 rfl Bi 51 i0 (.agg #[.int .i64 0, .bool false]) 2 16 Tryz.underlying49 hi hz0 hz1 hz2 rfl (by decide) _ q (vcells ((l.map (swV x)).take q)) rfl (HT.out.keep (below_step (below_alloc wr (.cells #[.int .i64 uc, .bool false] 51)) (below_alloc _ (.cells #[.int .i64 uc, .bool false] 51)))).a _ 1 1 [.int .i64 uc, .bool false] rfl rfl (two_cells _ _ _ _ _) ?c2 ?c3 ?c4 ?c5 ?_
                           case c2 => (intro u hu; simp at hu; rcases hu with rfl | rfl <;> rfl)
                           case c3 => (unfold maxLen; omega)
                           case c4 => omega
                           case c5 => (simp; omega)
                           intro v3 w3 hown3 hg3 _ hat3
                           have hT3 := (HT.out.keep (below_step (below_alloc wr (.cells #[.int .i64 uc, .bool false] 51)) (below_alloc _ (.cells #[.int .i64 uc, .bool false] 51)))).app hown3 hg3 hat3
                           have hb3 : Below Bi wC w3 := ((hbq.alloc hsq _).alloc (by simp; omega) _).grown hg3 (by simp; omega) (fun k hk => (World.ownsRow.lt HT.out.a k hk).1)
                           have hb3' : Below wC.heap.size wC w3 := by rw [HBI.out]; exact hb3
                           have hs3 : Bi ≤ w3.heap.size := by rw [← HBI.out]; exact hb3'.size
                           have z4 := (hb3'.cell (p := ⟨b1, o1 + p * 2, none⟩) hb1).trans hz2'
                           have z5 := (hb3'.cell (p := ⟨b1, o1 + p * 2 + 1, none⟩) hb1).trans hz3'))
                      have HT4 : Hid (Two w4 Bi 51 2 v3 (q + 1) (vcells ((l.map (swV x)).take (q + 1))) v4 (q + 1) (vcells (l.reverse.take (q + 1)))) := Lib.hid (by rw [HVC1.out, HVC2.out]; exact hT4)
                      clear hT4 hT3 hown3 hown4 hg3 hg4 hat3 hat4
                      go_roundw
                      case rel => exact ⟨q + 1, by omega, by go_num, hb4, HT4.out⟩
                      case measure => simp [intOf]; omega
                · obtain rfl : q = n1 := by omega
                  have htl1 : (l.map (swV x)).take q = l.map (swV x) := by rw [← HL1.out, List.take_length]
                  have htl2 : l.reverse.take q = l.reverse := by rw [← HL2.out, List.take_length]
                  rw [htl1, htl2] at htwo
                  have hBK : gK + 1 ≤ Bi := by have := HBI.out; have := HI.out.2.1; omega
                  obtain ⟨Av, cv, rfl, hve1⟩ := vel_of_own (B := gK + 1) (l := l.map (swV x)) (by rw [HL1.out]; exact htwo.a) hBK
                  obtain ⟨Aw, cw, rfl, hve2⟩ := vel_of_own (B := gK + 1) (l := l.reverse) (by rw [HL2.out]; exact htwo.b) hBK
                  rw [HL1.out] at hve1 ⊢
                  rw [HL2.out] at hve2 ⊢
                  have hI := HI.out.keep hbq' hszr
                  have HV1 := Lib.hid hve1
                  have HV2 := Lib.hid hve2
                  clear htwo htl1 htl2 hve1 hve2
                  obtain ⟨hIA, hKlt, hOS, hF1, hF2, A1, c1, vals1, A2, c2, vals2, hdb1, hdb2, htw⟩ := hI
                  have HII := Lib.hid (show SwInv wA gB gK gS ns pc cs S lp (swS s x) (swC x vss) (revC vss) wr k from ⟨hIA, hKlt, hOS, hF1, hF2, A1, c1, vals1, A2, c2, vals2, hdb1, hdb2, htw⟩)
                  have hcl := HC.out.1
                  have hkl1 : k < (swC x vss).length := by simp [swC]; omega
                  have hkl2 : k < (revC vss).length := by simp [revC]; omega
                  have htk1 : (swC x vss).take (k + 1) = (swC x vss).take k ++ [l.map (swV x)] := by
                    rw [take_succ_getD _ [] k hkl1]
                    congr 2
                    rw [← HL.out]
                    simp [swC, List.getD, show k < vss.length by omega]
                  have htk2 : (revC vss).take (k + 1) = (revC vss).take k ++ [l.reverse] := by
                    rw [take_succ_getD _ [] k hkl2]
                    congr 2
                    rw [← HL.out]
                    simp [revC, List.getD, show k < vss.length by omega]
                  have HTK1 := Lib.hid htk1
                  have HTK2 := Lib.hid htk2
                  have HTW := Lib.hid htw
                  have HVL1 : Hid (vals1.length = k) := Lib.hid (by rw [htw.a.2.1, List.length_take]; omega)
                  have HVL2 : Hid (vals2.length = k) := Lib.hid (by rw [htw.b.2.1, List.length_take]; omega)
                  have HZC : Hid (∀ W, Below (gK + 1) wr W → W.cell? ⟨gB, 0, none⟩ = some (.slice A1 k c1) ∧ W.cell? ⟨gK, 0, none⟩ = some (.slice A2 k c2)) := fun W hb => ⟨(hb.cell (p := ⟨gB, 0, none⟩) (show gB < gK + 1 by omega)).trans hdb1.1, (hb.cell (p := ⟨gK, 0, none⟩) (show gK < gK + 1 by omega)).trans hdb2.1⟩
                  have HZF : Hid (∀ W, Below (gK + 1) wr W → W.frozen? ⟨gB, 0, none⟩ = false) := fun W hb => (hb.frozen (p := ⟨gB, 0, none⟩) (show gB < gK + 1 by omega)).trans (hF1 0)
                  have HZG : Hid (∀ W, Below (gK + 1) wr W → W.frozen? ⟨gK, 0, none⟩ = false) := fun W hb => (hb.frozen (p := ⟨gK, 0, none⟩) (show gK < gK + 1 by omega)).trans (hF2 0)
                  obtain ⟨q0, r0⟩ := HZC.out wr (Below.refl _ _)
                  obtain ⟨qa, ra⟩ := HZC.out (wr.alloc (.cells #[.slice Av q cv] 49)) ((below_alloc wr _).mono hKlt)
                  obtain ⟨qb, rb⟩ := HZC.out (wr.alloc (.cells #[.slice Aw q cw] 49)) ((below_alloc wr _).mono hKlt)
                  obtain ⟨qc, rc⟩ := HZC.out ((wr.alloc (.cells #[.slice Av q cv] 49)).alloc (.cells #[.slice Aw q cw] 49)) ((below_step (below_alloc wr _) (below_alloc _ _)).mono hKlt)
                  obtain ⟨qd, rd⟩ := HZC.out ((wr.alloc (.cells #[.slice Aw q cw] 49)).alloc (.cells #[.slice Av q cv] 49)) ((below_step (below_alloc wr _) (below_alloc _ _)).mono hKlt)
                  have hBKne : gB ≠ gK := by omega
                  have hBKne' : gK ≠ gB := by omega
                  clear hIA hOS hF1 hF2 hdb1 hdb2 htw hcl hkl1 hkl2 htk1 htk2
                  go_upto_region 18 with fail
                  go_region_law (first
                    | (refine step_append_rowA rfl (.tmp 112) (.tmp 114) 26 49 (.slice none 0 0) 24 rfl Tryz.underlying26 Tryz.infoVisL rfl (by omega) (gK + 1) (.slice A1 k c1) vals1 rfl (T5.keep (below_alloc w5 (.cells #[.slice Av q cv] 49))).swap.a.1 (w5.heap.size) (.slice Av q cv) rfl (by rw [World.cell?_alloc_at _ _ _ _ rfl]; rfl) rfl (by rw [HVL1.out]; omega) (Nat.le_trans hs5 (below_alloc w5 (.cells #[.slice Av q cv] 49)).size) ?_; rw [HVL1.out]; intro A6 c6 w6 hrow6 hg6 hat6; have T6 := (T5.keep (below_alloc w5 (.cells #[.slice Av q cv] 49))).swap.app (V5.keep (below_alloc w5 (.cells #[.slice Av q cv] 49))) hrow6 hg6 hat6 (by decide); have hb6 : Below (gK + 1) wr w6 := (hb5.alloc hs5 _).grown hg6 (Nat.le_trans hs5 (below_alloc w5 (.cells #[.slice Av q cv] 49)).size) (fun j hj => (World.ownsRow.lt (T5.keep (below_alloc w5 (.cells #[.slice Av q cv] 49))).swap.a.1 j hj).1); obtain ⟨q6, r6⟩ := HZC.out _ hb6; have fq6 := HZF.out _ hb6; have fr6 := HZG.out _ hb6)
                    | (refine step_append_rowA rfl (.tmp 112) (.tmp 114) 26 49 (.slice none 0 0) 24 rfl Tryz.underlying26 Tryz.infoVisL rfl (by omega) (gK + 1) (.slice A1 k c1) vals1 rfl T5.swap.a.1 (wr.heap.size) (.slice Av q cv) rfl k5 rfl (by rw [HVL1.out]; omega) hs5 ?_; rw [HVL1.out]; intro A6 c6 w6 hrow6 hg6 hat6; have T6 := T5.swap.app V5 hrow6 hg6 hat6 (by decide); have hb6 : Below (gK + 1) wr w6 := hb5.grown hg6 hs5 (fun j hj => (World.ownsRow.lt T5.swap.a.1 j hj).1); obtain ⟨q6, r6⟩ := HZC.out _ hb6; have fq6 := HZF.out _ hb6; have fr6 := HZG.out _ hb6)
                    | (refine step_append_rowA rfl (.tmp 112) (.tmp 114) 26 49 (.slice none 0 0) 24 rfl Tryz.underlying26 Tryz.infoVisL rfl (by omega) (gK + 1) (.slice A1 k c1) vals1 rfl T5.swap.a.1 ((wr.heap.size + 1)) (.slice Av q cv) rfl k5 rfl (by rw [HVL1.out]; omega) hs5 ?_; rw [HVL1.out]; intro A6 c6 w6 hrow6 hg6 hat6; have T6 := T5.swap.app V5 hrow6 hg6 hat6 (by decide); have hb6 : Below (gK + 1) wr w6 := hb5.grown hg6 hs5 (fun j hj => (World.ownsRow.lt T5.swap.a.1 j hj).1); obtain ⟨q6, r6⟩ := HZC.out _ hb6; have fq6 := HZF.out _ hb6; have fr6 := HZG.out _ hb6)
                    | (refine step_append_rowA rfl (.tmp 117) (.tmp 119) 26 49 (.slice none 0 0) 24 rfl Tryz.underlying26 Tryz.infoVisL rfl (by omega) (gK + 1) (.slice A2 k c2) vals2 rfl (T5.keep (below_alloc w5 (.cells #[.slice Aw q cw] 49))).swap.a.1 (w5.heap.size) (.slice Aw q cw) rfl (by rw [World.cell?_alloc_at _ _ _ _ rfl]; rfl) rfl (by rw [HVL2.out]; omega) (Nat.le_trans hs5 (below_alloc w5 (.cells #[.slice Aw q cw] 49)).size) ?_; rw [HVL2.out]; intro A6 c6 w6 hrow6 hg6 hat6; have T6 := (T5.keep (below_alloc w5 (.cells #[.slice Aw q cw] 49))).swap.app (V5.keep (below_alloc w5 (.cells #[.slice Aw q cw] 49))) hrow6 hg6 hat6 (by decide); have hb6 : Below (gK + 1) wr w6 := (hb5.alloc hs5 _).grown hg6 (Nat.le_trans hs5 (below_alloc w5 (.cells #[.slice Aw q cw] 49)).size) (fun j hj => (World.ownsRow.lt (T5.keep (below_alloc w5 (.cells #[.slice Aw q cw] 49))).swap.a.1 j hj).1); obtain ⟨q6, r6⟩ := HZC.out _ hb6; have fq6 := HZF.out _ hb6; have fr6 := HZG.out _ hb6)
                    | (refine step_append_rowA rfl (.tmp 117) (.tmp 119) 26 49 (.slice none 0 0) 24 rfl Tryz.underlying26 Tryz.infoVisL rfl (by omega) (gK + 1) (.slice A2 k c2) vals2 rfl T5.swap.a.1 (wr.heap.size) (.slice Aw q cw) rfl k5 rfl (by rw [HVL2.out]; omega) hs5 ?_; rw [HVL2.out]; intro A6 c6 w6 hrow6 hg6 hat6; have T6 := T5.swap.app V5 hrow6 hg6 hat6 (by decide); have hb6 : Below (gK + 1) wr w6 := hb5.grown hg6 hs5 (fun j hj => (World.ownsRow.lt T5.swap.a.1 j hj).1); obtain ⟨q6, r6⟩ := HZC.out _ hb6; have fq6 := HZF.out _ hb6; have fr6 := HZG.out _ hb6)
                    | (refine step_append_rowA rfl (.tmp 117) (.tmp 119) 26 49 (.slice none 0 0) 24 rfl Tryz.underlying26 Tryz.infoVisL rfl (by omega) (gK + 1) (.slice A2 k c2) vals2 rfl T5.swap.a.1 ((wr.heap.size + 1)) (.slice Aw q cw) rfl k5 rfl (by rw [HVL2.out]; omega) hs5 ?_; rw [HVL2.out]; intro A6 c6 w6 hrow6 hg6 hat6; have T6 := T5.swap.app V5 hrow6 hg6 hat6 (by decide); have hb6 : Below (gK + 1) wr w6 := hb5.grown hg6 hs5 (fun j hj => (World.ownsRow.lt T5.swap.a.1 j hj).1); obtain ⟨q6, r6⟩ := HZC.out _ hb6; have fq6 := HZF.out _ hb6; have fr6 := HZG.out _ hb6)
                    | (refine step_append_rowA rfl (.tmp 112) (.tmp 114) 26 49 (.slice none 0 0) 24 rfl Tryz.underlying26 Tryz.infoVisL rfl (by omega) (gK + 1) (.slice A1 k c1) vals1 rfl (HTW.out.keep (pre_b1 wr (.cells #[.slice Av q cv] 49))).a.1 (wr.heap.size) (.slice Av q cv) rfl (by exact cell_of_heap (t := 49) (heap_alloc_new wr _)) rfl (by rw [HVL1.out]; omega) (by exact Nat.le_trans hKlt ((pre_b1 wr (.cells #[.slice Av q cv] 49))).size) ?_; rw [HVL1.out]; intro A5 c5 w5 hrow5 hg5 hat5; have T5 := (HTW.out.keep (pre_b1 wr (.cells #[.slice Av q cv] 49))).app (HV1.out.keep (pre_b1 wr (.cells #[.slice Av q cv] 49))) hrow5 hg5 hat5 (by decide); have V5 := (HV2.out.keep (pre_b1 wr (.cells #[.slice Av q cv] 49))).grown (HTW.out.keep (pre_b1 wr (.cells #[.slice Av q cv] 49))).a.1 hg5 (by decide); have hb5 : Below (gK + 1) wr w5 := ((pre_b1 wr (.cells #[.slice Av q cv] 49)).mono hKlt).grown hg5 (Nat.le_trans hKlt ((pre_b1 wr (.cells #[.slice Av q cv] 49))).size) (fun j hj => (World.ownsRow.lt (HTW.out.keep (pre_b1 wr (.cells #[.slice Av q cv] 49))).a.1 j hj).1); have hs5 : gK + 1 ≤ w5.heap.size := Nat.le_trans hKlt hb5.size; obtain ⟨q7, r7⟩ := HZC.out _ (hb5.alloc hs5 (.cells #[.slice Aw q cw] 49)); obtain ⟨q5, r5⟩ := HZC.out _ hb5; have fq5 := HZF.out _ hb5; have fr5 := HZG.out _ hb5)
                    | (refine step_append_rowA rfl (.tmp 112) (.tmp 114) 26 49 (.slice none 0 0) 24 rfl Tryz.underlying26 Tryz.infoVisL rfl (by omega) (gK + 1) (.slice A1 k c1) vals1 rfl (HTW.out.keep (pre_b2 wr (.cells #[.slice Av q cv] 49) (.cells #[.slice Aw q cw] 49))).a.1 (wr.heap.size) (.slice Av q cv) rfl (by exact cell_of_heap (t := 49) (heap_two0 wr _ _)) rfl (by rw [HVL1.out]; omega) (by exact Nat.le_trans hKlt ((pre_b2 wr (.cells #[.slice Av q cv] 49) (.cells #[.slice Aw q cw] 49))).size) ?_; rw [HVL1.out]; intro A5 c5 w5 hrow5 hg5 hat5; have T5 := (HTW.out.keep (pre_b2 wr (.cells #[.slice Av q cv] 49) (.cells #[.slice Aw q cw] 49))).app (HV1.out.keep (pre_b2 wr (.cells #[.slice Av q cv] 49) (.cells #[.slice Aw q cw] 49))) hrow5 hg5 hat5 (by decide); have V5 := (HV2.out.keep (pre_b2 wr (.cells #[.slice Av q cv] 49) (.cells #[.slice Aw q cw] 49))).grown (HTW.out.keep (pre_b2 wr (.cells #[.slice Av q cv] 49) (.cells #[.slice Aw q cw] 49))).a.1 hg5 (by decide); have hb5 : Below (gK + 1) wr w5 := ((pre_b2 wr (.cells #[.slice Av q cv] 49) (.cells #[.slice Aw q cw] 49)).mono hKlt).grown hg5 (Nat.le_trans hKlt ((pre_b2 wr (.cells #[.slice Av q cv] 49) (.cells #[.slice Aw q cw] 49))).size) (fun j hj => (World.ownsRow.lt (HTW.out.keep (pre_b2 wr (.cells #[.slice Av q cv] 49) (.cells #[.slice Aw q cw] 49))).a.1 j hj).1); have hs5 : gK + 1 ≤ w5.heap.size := Nat.le_trans hKlt hb5.size; have k5 : w5.cell? ⟨wr.heap.size + 1, 0, none⟩ = some (.slice Aw q cw) := cell_grown (t := 49) (W := ((wr.alloc (.cells #[.slice Av q cv] 49)).alloc (.cells #[.slice Aw q cw] 49)).drew) (heap_two1 wr _ _) hg5 (fun j hj e => by have := (World.ownsRow.lt HTW.out.a.1 j hj).2; omega); obtain ⟨q5, r5⟩ := HZC.out _ hb5; have fq5 := HZF.out _ hb5; have fr5 := HZG.out _ hb5)
                    | (refine step_append_rowA rfl (.tmp 112) (.tmp 114) 26 49 (.slice none 0 0) 24 rfl Tryz.underlying26 Tryz.infoVisL rfl (by omega) (gK + 1) (.slice A1 k c1) vals1 rfl (HTW.out.keep (pre_b2 wr (.cells #[.slice Aw q cw] 49) (.cells #[.slice Av q cv] 49))).a.1 (wr.heap.size + 1) (.slice Av q cv) rfl (by exact cell_of_heap (t := 49) (heap_two1 wr _ _)) rfl (by rw [HVL1.out]; omega) (by exact Nat.le_trans hKlt ((pre_b2 wr (.cells #[.slice Aw q cw] 49) (.cells #[.slice Av q cv] 49))).size) ?_; rw [HVL1.out]; intro A5 c5 w5 hrow5 hg5 hat5; have T5 := (HTW.out.keep (pre_b2 wr (.cells #[.slice Aw q cw] 49) (.cells #[.slice Av q cv] 49))).app (HV1.out.keep (pre_b2 wr (.cells #[.slice Aw q cw] 49) (.cells #[.slice Av q cv] 49))) hrow5 hg5 hat5 (by decide); have V5 := (HV2.out.keep (pre_b2 wr (.cells #[.slice Aw q cw] 49) (.cells #[.slice Av q cv] 49))).grown (HTW.out.keep (pre_b2 wr (.cells #[.slice Aw q cw] 49) (.cells #[.slice Av q cv] 49))).a.1 hg5 (by decide); have hb5 : Below (gK + 1) wr w5 := ((pre_b2 wr (.cells #[.slice Aw q cw] 49) (.cells #[.slice Av q cv] 49)).mono hKlt).grown hg5 (Nat.le_trans hKlt ((pre_b2 wr (.cells #[.slice Aw q cw] 49) (.cells #[.slice Av q cv] 49))).size) (fun j hj => (World.ownsRow.lt (HTW.out.keep (pre_b2 wr (.cells #[.slice Aw q cw] 49) (.cells #[.slice Av q cv] 49))).a.1 j hj).1); have hs5 : gK + 1 ≤ w5.heap.size := Nat.le_trans hKlt hb5.size; have k5 : w5.cell? ⟨wr.heap.size, 0, none⟩ = some (.slice Aw q cw) := cell_grown (t := 49) (W := ((wr.alloc (.cells #[.slice Aw q cw] 49)).alloc (.cells #[.slice Av q cv] 49)).drew) (heap_two0 wr _ _) hg5 (fun j hj e => by have := (World.ownsRow.lt HTW.out.a.1 j hj).2; omega); obtain ⟨q5, r5⟩ := HZC.out _ hb5; have fq5 := HZF.out _ hb5; have fr5 := HZG.out _ hb5)
                    | (refine step_append_rowA rfl (.tmp 117) (.tmp 119) 26 49 (.slice none 0 0) 24 rfl Tryz.underlying26 Tryz.infoVisL rfl (by omega) (gK + 1) (.slice A2 k c2) vals2 rfl (HTW.out.keep (pre_b1 wr (.cells #[.slice Aw q cw] 49))).swap.a.1 (wr.heap.size) (.slice Aw q cw) rfl (by exact cell_of_heap (t := 49) (heap_alloc_new wr _)) rfl (by rw [HVL2.out]; omega) (by exact Nat.le_trans hKlt ((pre_b1 wr (.cells #[.slice Aw q cw] 49))).size) ?_; rw [HVL2.out]; intro A5 c5 w5 hrow5 hg5 hat5; have T5 := (HTW.out.keep (pre_b1 wr (.cells #[.slice Aw q cw] 49))).swap.app (HV2.out.keep (pre_b1 wr (.cells #[.slice Aw q cw] 49))) hrow5 hg5 hat5 (by decide); have V5 := (HV1.out.keep (pre_b1 wr (.cells #[.slice Aw q cw] 49))).grown (HTW.out.keep (pre_b1 wr (.cells #[.slice Aw q cw] 49))).swap.a.1 hg5 (by decide); have hb5 : Below (gK + 1) wr w5 := ((pre_b1 wr (.cells #[.slice Aw q cw] 49)).mono hKlt).grown hg5 (Nat.le_trans hKlt ((pre_b1 wr (.cells #[.slice Aw q cw] 49))).size) (fun j hj => (World.ownsRow.lt (HTW.out.keep (pre_b1 wr (.cells #[.slice Aw q cw] 49))).swap.a.1 j hj).1); have hs5 : gK + 1 ≤ w5.heap.size := Nat.le_trans hKlt hb5.size; obtain ⟨q7, r7⟩ := HZC.out _ (hb5.alloc hs5 (.cells #[.slice Av q cv] 49)); obtain ⟨q5, r5⟩ := HZC.out _ hb5; have fq5 := HZF.out _ hb5; have fr5 := HZG.out _ hb5)
                    | (refine step_append_rowA rfl (.tmp 117) (.tmp 119) 26 49 (.slice none 0 0) 24 rfl Tryz.underlying26 Tryz.infoVisL rfl (by omega) (gK + 1) (.slice A2 k c2) vals2 rfl (HTW.out.keep (pre_b2 wr (.cells #[.slice Aw q cw] 49) (.cells #[.slice Av q cv] 49))).swap.a.1 (wr.heap.size) (.slice Aw q cw) rfl (by exact cell_of_heap (t := 49) (heap_two0 wr _ _)) rfl (by rw [HVL2.out]; omega) (by exact Nat.le_trans hKlt ((pre_b2 wr (.cells #[.slice Aw q cw] 49) (.cells #[.slice Av q cv] 49))).size) ?_; rw [HVL2.out]; intro A5 c5 w5 hrow5 hg5 hat5; have T5 := (HTW.out.keep (pre_b2 wr (.cells #[.slice Aw q cw] 49) (.cells #[.slice Av q cv] 49))).swap.app (HV2.out.keep (pre_b2 wr (.cells #[.slice Aw q cw] 49) (.cells #[.slice Av q cv] 49))) hrow5 hg5 hat5 (by decide); have V5 := (HV1.out.keep (pre_b2 wr (.cells #[.slice Aw q cw] 49) (.cells #[.slice Av q cv] 49))).grown (HTW.out.keep (pre_b2 wr (.cells #[.slice Aw q cw] 49) (.cells #[.slice Av q cv] 49))).swap.a.1 hg5 (by decide); have hb5 : Below (gK + 1) wr w5 := ((pre_b2 wr (.cells #[.slice Aw q cw] 49) (.cells #[.slice Av q cv] 49)).mono hKlt).grown hg5 (Nat.le_trans hKlt ((pre_b2 wr (.cells #[.slice Aw q cw] 49) (.cells #[.slice Av q cv] 49))).size) (fun j hj => (World.ownsRow.lt (HTW.out.keep (pre_b2 wr (.cells #[.slice Aw q cw] 49) (.cells #[.slice Av q cv] 49))).swap.a.1 j hj).1); have hs5 : gK + 1 ≤ w5.heap.size := Nat.le_trans hKlt hb5.size; have k5 : w5.cell? ⟨wr.heap.size + 1, 0, none⟩ = some (.slice Av q cv) := cell_grown (t := 49) (W := ((wr.alloc (.cells #[.slice Aw q cw] 49)).alloc (.cells #[.slice Av q cv] 49)).drew) (heap_two1 wr _ _) hg5 (fun j hj e => by have := (World.ownsRow.lt HTW.out.swap.a.1 j hj).2; omega); obtain ⟨q5, r5⟩ := HZC.out _ hb5; have fq5 := HZF.out _ hb5; have fr5 := HZG.out _ hb5)
                    | (refine step_append_rowA rfl (.tmp 117) (.tmp 119) 26 49 (.slice none 0 0) 24 rfl Tryz.underlying26 Tryz.infoVisL rfl (by omega) (gK + 1) (.slice A2 k c2) vals2 rfl (HTW.out.keep (pre_b2 wr (.cells #[.slice Av q cv] 49) (.cells #[.slice Aw q cw] 49))).swap.a.1 (wr.heap.size + 1) (.slice Aw q cw) rfl (by exact cell_of_heap (t := 49) (heap_two1 wr _ _)) rfl (by rw [HVL2.out]; omega) (by exact Nat.le_trans hKlt ((pre_b2 wr (.cells #[.slice Av q cv] 49) (.cells #[.slice Aw q cw] 49))).size) ?_; rw [HVL2.out]; intro A5 c5 w5 hrow5 hg5 hat5; have T5 := (HTW.out.keep (pre_b2 wr (.cells #[.slice Av q cv] 49) (.cells #[.slice Aw q cw] 49))).swap.app (HV2.out.keep (pre_b2 wr (.cells #[.slice Av q cv] 49) (.cells #[.slice Aw q cw] 49))) hrow5 hg5 hat5 (by decide); have V5 := (HV1.out.keep (pre_b2 wr (.cells #[.slice Av q cv] 49) (.cells #[.slice Aw q cw] 49))).grown (HTW.out.keep (pre_b2 wr (.cells #[.slice Av q cv] 49) (.cells #[.slice Aw q cw] 49))).swap.a.1 hg5 (by decide); have hb5 : Below (gK + 1) wr w5 := ((pre_b2 wr (.cells #[.slice Av q cv] 49) (.cells #[.slice Aw q cw] 49)).mono hKlt).grown hg5 (Nat.le_trans hKlt ((pre_b2 wr (.cells #[.slice Av q cv] 49) (.cells #[.slice Aw q cw] 49))).size) (fun j hj => (World.ownsRow.lt (HTW.out.keep (pre_b2 wr (.cells #[.slice Av q cv] 49) (.cells #[.slice Aw q cw] 49))).swap.a.1 j hj).1); have hs5 : gK + 1 ≤ w5.heap.size := Nat.le_trans hKlt hb5.size; have k5 : w5.cell? ⟨wr.heap.size, 0, none⟩ = some (.slice Av q cv) := cell_grown (t := 49) (W := ((wr.alloc (.cells #[.slice Av q cv] 49)).alloc (.cells #[.slice Aw q cw] 49)).drew) (heap_two0 wr _ _) hg5 (fun j hj e => by have := (World.ownsRow.lt HTW.out.swap.a.1 j hj).2; omega); obtain ⟨q5, r5⟩ := HZC.out _ hb5; have fq5 := HZF.out _ hb5; have fr5 := HZG.out _ hb5))
                  all_goals
                    have HREL := Lib.hid (sw_round HII.out hBlt hSlt hSB hgB hb6 (by first | exact T6 | exact T6.swap) HTK1.out HTK2.out)
                    clear T6 T5 V5 hrow5 hrow6 hg5 hg6 hat5 hat6
                    go_wp2
                    go_roundw
                    case rel => exact ⟨k + 1, by omega, by go_num, HREL.out⟩
                    case measure => simp [intOf]; omega
            · obtain rfl : k = nc := by omega
              obtain ⟨_, hKlt, hOS, hF1, hF2, A1, c1, vals1, A2, c2, vals2, hdb1, hdb2, htw⟩ := hI
              have hcl := HC.out.1
              have hk1 : (swC x vss).take k = swC x vss := by rw [show k = (swC x vss).length by simp [swC, hcl], List.take_length]
              have hk2 : (revC vss).take k = revC vss := by rw [show k = (revC vss).length by simp [revC, hcl], List.take_length]
              rw [hk1, hk2] at htw
              have hR1 := htw.a.rvv
              have hR2 := htw.b.rvv
              have hRS := hOS.ri
              obtain ⟨a0, a1, a2, _⟩ := hdb1
              have HDB2 := Lib.hid hdb2
              have hb0r := below_step hb04 hbr'
              have HG1 := CG1 A1 c1 (some ⟨gS, 0, none⟩) pc wr hR1 hRS
              clear hOS hF1 hF2 htw hdb2 hcl hk1 hk2 hR1 hRS CG1
              go_wp2_with (first
                | (go_at_call 20; ((with_reducible refine (CG2 A2 c2 _ hb07 (hR2.keep hb7)).out.mono ?_); rintro e w8 ⟨rfl, hb8⟩))
                | (go_at_call 20; ((with_reducible refine HG1.out.mono ?_); rintro e w7 ⟨rfl, hb7⟩; have hb07 := below_step hb0r hb7; obtain ⟨g0, g1, g2⟩ := HDB2.out.all hb7)))
              go_ret
              exact ⟨rfl, below_step hb07 hb8⟩

end Go.Proofs.YtdacjnmfmhkpiaaGreatDoor
