import Derived.Test.YtambhopkacgddaaF05
import Derived.Test.YtambhopkacgddaaF02
import Derived.Test.YtambhopkacgddaaF03
import Derived.Test.YtambhopkacgddaaF06
import Derived.Test.YtambhopkacgddaaF08
import Derived.Test.YtambhopkacgddaaF01
import Derived.Deep.LoopGhost
import Derived.ProofKit
import Derived.Lib.SmallJoins
/- Walk: the code of a strand. -/
namespace Go.Proofs.Ytambhopkacgddaa
open Go.RowKit

set_option maxHeartbeats 3200000 in
set_option maxRecDepth 100000 in
theorem codeOf_any (A : Option Addr) (n c : Nat) (st : List Int) (w : World) (hA : RI w A (2 * n) st) (hn : n ≤ 64) (hpos : 0 < n) (hst : ∀ j, j < 2 * n → 0 ≤ st.getD j 0 ∧ cr st j < n) :
    Calls Try.prog 28 #[.slice A (2 * n) c] w fun e w' => e = .returned (.slice (some ⟨w.heap.size, 0, none⟩) n n) ∧ Arr w' w.heap.size 3 n (zv fun i => evK st n (cr st (2 * i))) ∧ Below w.heap.size w w' := by
  obtain ⟨b, off, rfl, hb, hc⟩ := hA.2 (by omega)
  have HST := Lib.hid hst
  have HC := Lib.hid hc
  clear hst hc hA
  have hn1 : (n : Int) ≤ 64 := by omega
  have hn0 : (0 : Int) < (n : Int) := by omega
  have hmk := fun W => make_one (P := Try.prog) Try.underlying22 Try.infoInt rfl n (by omega) (by omega) W
  obtain ⟨L, hL⟩ : ∃ L, 2 * n = L := ⟨_, rfl⟩
  rw [hL] at HST HC ⊢
  have hLn : (L : Int) / 2 = (n : Int) := by omega
  have hLw : IntKind.i64.wrap (n : Int) = (n : Int) := IntWalk.i64_in _ (by omega)
  have hL0 : (0 : Int) ≤ (L : Int) := Int.natCast_nonneg _
  have hL1 : (L : Int) ≤ 128 := by omega
  have HL := Lib.hid hL
  clear hL
  go_enter Try.func28, Try.ntmps28
  go_wp2
  clear hLn hLw
  have hsz : w.heap.size + 1 = (w.alloc (.cells (cellsN n fun _ => .int .i64 0) 3)).heap.size := by simp
  have hC0 : Arr ((w.alloc (.cells (cellsN n fun _ => .int .i64 0) 3)).alloc (.cells (cellsN n fun _ => .int .i64 0) 3)) w.heap.size 3 n (zv fun _ => 0) := (Arr.new w _ _ _).alloc _
  have hE0 : Arr ((w.alloc (.cells (cellsN n fun _ => .int .i64 0) 3)).alloc (.cells (cellsN n fun _ => .int .i64 0) 3)) (w.heap.size + 1) 3 n (zv (evK st 0)) := by rw [hsz]; exact Arr.new _ _ _ _
  have hb0 : Below w.heap.size w ((w.alloc (.cells (cellsN n fun _ => .int .i64 0) 3)).alloc (.cells (cellsN n fun _ => .int .i64 0) 3)) := below_step (below_alloc w _) (below_alloc _ _)
  obtain ⟨gE, hgE⟩ : ∃ gE, w.heap.size + 1 = gE := ⟨_, rfl⟩
  have hge : w.heap.size < gE := by omega
  have hgne : ¬ gE = w.heap.size := by omega
  rw [hgE] at hE0 ⊢
  clear hgE hsz hmk
  generalize (w.alloc (.cells (cellsN n fun _ => .int .i64 0) 3)).alloc (.cells (cellsN n fun _ => .int .i64 0) 3) = wA at hC0 hE0 hb0
  go_loopw [5] (fun i wr => ∃ k : Nat, k ≤ n ∧ i = .int .i64 (2 * (k : Int) + 1) ∧ Below w.heap.size w wr ∧ Arr wr w.heap.size 3 n (zv fun _ => 0) ∧ Arr wr gE 3 n (zv (evK st k))) (fun i _ => (2 * (n : Int) + 1 - intOf i).toNat)
  case atStart => exact ⟨0, by omega, rfl, hb0, hC0, hE0⟩
  case round =>
    obtain ⟨k, hk, rfl, hbr, hCr, hEr⟩ := hrel
    by_cases hlt : k < n
    · obtain ⟨hx0, hx1⟩ := HST.out (2 * k + 1) (by have := HL.out; omega)
      have hcell : wr.cell? ⟨b, off + (2 * k + 1), none⟩ = some (.int .i64 (st.getD (2 * k + 1) 0)) := (hbr.cell (p := ⟨b, off + (2 * k + 1), none⟩) hb).trans (HC.out (2 * k + 1) (by have := HL.out; omega))
      have hev : evK st (k + 1) = fun c => if c = cr st (2 * k + 1) then vlO st k else evK st k c := rfl
      unfold vlO at hev
      have hcr : cr st (2 * k + 1) = (st.getD (2 * k + 1) 0).toNat / 4 := rfl
      obtain ⟨x, hx⟩ : ∃ x : Nat, st.getD (2 * k + 1) 0 = (x : Int) := ⟨(st.getD (2 * k + 1) 0).toNat, by omega⟩
      rw [hx] at hcr hcell hev
      rw [Int.toNat_natCast] at hcr hev
      rw [hcr] at hev hx1
      have HEV := Lib.hid hev
      have CO := fun W => Lib.hid (over_any x W (by omega))
      have hi1 : (2 * (k : Int) + 1).toNat = 2 * k + 1 := by omega
      have hxw : IntKind.i64.wrap ((x : Int) / 4) = (x : Int) / 4 := IntWalk.i64_in _ (by omega)
      have hk0 : (0 : Int) ≤ (k : Int) := Int.natCast_nonneg _
      have hk1 : (k : Int) < (n : Int) := by omega
      have hkL : 2 * (k : Int) + 1 < (L : Int) := by have := HL.out; omega
      have hxi0 : (0 : Int) ≤ (x : Int) := Int.natCast_nonneg _
      have hxi1 : (x : Int) / 4 < (n : Int) := by omega
      have hxi2 : (0 : Int) ≤ (x : Int) / 4 := by omega
      have hxi3 : (x : Int) ≤ 1000 := by omega
      have f1 := hEr.frozen (x / 4)
      have c1 := hEr.cell (x / 4) hx1
      have hb1 : Below w.heap.size w (wr.setCell ⟨gE, x / 4, none⟩ (.int .i64 (2 * (k : Int) + 1 + 1))) := below_set hbr (by omega) _
      have hcell2 : (wr.setCell ⟨gE, x / 4, none⟩ (.int .i64 (2 * (k : Int) + 1 + 1))).cell? ⟨b, off + (2 * k + 1), none⟩ = some (.int .i64 (x : Int)) := (hb1.cell (p := ⟨b, off + (2 * k + 1), none⟩) hb).trans (((hbr.cell (p := ⟨b, off + (2 * k + 1), none⟩) hb).symm).trans hcell)
      have hC2 := hCr.far (p := ⟨gE, x / 4, none⟩) (by show w.heap.size ≠ gE; omega) (.int .i64 (2 * (k : Int) + 1 + 1))
      have hE2 := hEr.setz (x / 4) (2 * (k : Int) + 1 + 1)
      have f2 := hE2.frozen (x / 4)
      have c2 := hE2.cell (x / 4) hx1
      have hB1 := Lib.hid hb1
      have HC2 := Lib.hid hC2
      have HE2 := Lib.hid hE2
      have HX := Lib.hid hx
      clear hx hev hcr hC0 hE0 hb0 hCr hEr hC2 hE2 hb1 hx0
      by_cases hp : x % 2 = 1
      · have hp' : ((x : Int) % 2 == 1) = true := by simp; omega
        rw [hp'] at CO
        have hEn : Arr ((wr.setCell ⟨gE, x / 4, none⟩ (.int .i64 (2 * (k : Int) + 1 + 1))).setCell ⟨gE, x / 4, none⟩ (.int .i64 (-(2 * (k : Int) + 1) - 1))) gE 3 n (zv (evK st (k + 1))) := by
          refine (HE2.out.setz (x / 4) (-(2 * (k : Int) + 1) - 1)).congr fun i _ => ?_
          rw [HEV.out]
          simp only [zv, if_pos hp]
          split <;> (congr 1; try omega)
        have HEN := Lib.hid hEn
        have hCn := HC2.out.far (p := ⟨gE, x / 4, none⟩) (by show w.heap.size ≠ gE; omega) (.int .i64 (-(2 * (k : Int) + 1) - 1))
        have HCN := Lib.hid hCn
        clear hEn hCn hp hp'
        go_wp2_with ((with_reducible refine (CO _).out.mono ?_); rintro e w1 ⟨rfl, rfl⟩)
        go_roundw
        case rel => exact ⟨k + 1, by omega, by go_num, below_set hB1.out (by omega) _, HCN.out, HEN.out⟩
        case measure => simp [intOf]; omega
      · have hp' : ((x : Int) % 2 == 1) = false := by simp; omega
        rw [hp'] at CO
        have hEn : Arr (wr.setCell ⟨gE, x / 4, none⟩ (.int .i64 (2 * (k : Int) + 1 + 1))) gE 3 n (zv (evK st (k + 1))) := by
          refine HE2.out.congr fun i _ => ?_
          rw [HEV.out]
          simp only [zv, if_neg hp]
          split <;> (congr 1; try omega)
        have HEN := Lib.hid hEn
        clear hEn hp hp'
        go_wp2_with ((with_reducible refine (CO _).out.mono ?_); rintro e w1 ⟨rfl, rfl⟩)
        go_roundw
        case rel => exact ⟨k + 1, by omega, by go_num, hB1.out, HC2.out, HEN.out⟩
        case measure => simp [intOf]; omega
    · obtain rfl : k = n := by omega
      have hkL : ¬ 2 * (k : Int) + 1 < (L : Int) := by have := HL.out; omega
      obtain ⟨wB, hwB⟩ : ∃ wB : World, wB = wr := ⟨_, rfl⟩
      subst hwB
      have hCs : Arr wB w.heap.size 3 k (zv fun i => if i < 0 then evK st k (cr st (2 * i)) else 0) := hCr.congr fun i _ => by simp [zv]
      clear hCr hlt hk hC0 hE0 hb0
      go_wp2
      go_loopw [6, 46] (fun _ i wr => ∃ j : Nat, j ≤ k ∧ i = .int .i64 j ∧ Below w.heap.size w wr ∧ Arr wr gE 3 k (zv (evK st k)) ∧ Arr wr w.heap.size 3 k (zv fun i => if i < j then evK st k (cr st (2 * i)) else 0)) (fun _ i _ => k - (intOf i).toNat)
      case atStart => exact ⟨0, by omega, rfl, hbr, hEr, hCs⟩
      case round =>
        obtain ⟨j, hj, rfl, hbj, hEj, hCj⟩ := hrel
        by_cases hjl : j < k
        · obtain ⟨hx0, hx1⟩ := HST.out (2 * j) (by have := HL.out; omega)
          have hcell : wr.cell? ⟨b, off + 2 * j, none⟩ = some (.int .i64 (st.getD (2 * j) 0)) := (hbj.cell (p := ⟨b, off + 2 * j, none⟩) hb).trans (HC.out (2 * j) (by have := HL.out; omega))
          have hcr : cr st (2 * j) = (st.getD (2 * j) 0).toNat / 4 := rfl
          obtain ⟨x, hx⟩ : ∃ x : Nat, st.getD (2 * j) 0 = (x : Int) := ⟨(st.getD (2 * j) 0).toNat, by omega⟩
          rw [hx] at hcr hcell
          rw [Int.toNat_natCast] at hcr
          rw [hcr] at hx1
          have cE := hEj.cell (x / 4) hx1
          have cE' : wr.cell? ⟨gE, x / 4, none⟩ = some (.int .i64 (evK st k (x / 4))) := cE
          obtain ⟨y, hy⟩ : ∃ y, evK st k (x / 4) = y := ⟨_, rfl⟩
          rw [hy] at cE'
          have hCn : Arr (wr.setCell ⟨w.heap.size, j, none⟩ (.int .i64 y)) w.heap.size 3 k (zv fun i => if i < j + 1 then evK st k (cr st (2 * i)) else 0) := by
            refine (hCj.setz j y).congr fun i _ => ?_
            simp only [zv]
            by_cases e : i = j
            · subst e; rw [if_pos rfl, if_pos (by omega), hcr, hy]
            · rw [if_neg e]
              by_cases e2 : i < j
              · rw [if_pos e2, if_pos (by omega)]
              · rw [if_neg e2, if_neg (by omega)]
          have hEn := hEj.far (p := ⟨w.heap.size, j, none⟩) (by show gE ≠ w.heap.size; omega) (.int .i64 y)
          have f1 := hCj.frozen j
          have c1 := hCj.cell j hjl
          have HCN := Lib.hid hCn
          have HEN := Lib.hid hEn
          have hi1 : (2 * (j : Int)).toNat = 2 * j := by omega
          have hxw : IntKind.i64.wrap ((x : Int) / 4) = (x : Int) / 4 := IntWalk.i64_in _ (by omega)
          have hk0 : (0 : Int) ≤ (j : Int) := Int.natCast_nonneg _
          have hk1 : (j : Int) < (k : Int) := by omega
          have hjL : 2 * (j : Int) < (L : Int) := by have := HL.out; omega
          have hxi0 : (0 : Int) ≤ (x : Int) := Int.natCast_nonneg _
          have hxi1 : (x : Int) / 4 < (k : Int) := by omega
          have hxi2 : (0 : Int) ≤ (x : Int) / 4 := by omega
          have hxi3 : (x : Int) ≤ 1000 := by omega
          clear hCn hEn hx hcr hy cE hCj hEj hCs hx0 hEr hbr
          go_wp2
          go_roundw
          case rel => exact ⟨j + 1, by omega, by go_num, below_set hbj (Nat.le_refl _) _, HEN.out, HCN.out⟩
          case measure => simp [intOf]; omega
        · obtain rfl : j = k := by omega
          have hfin : Arr wr w.heap.size 3 j (zv fun i => evK st j (cr st (2 * i))) := hCj.congr fun i hi => by simp only [zv, if_pos hi]
          have HF := Lib.hid hfin
          clear hjl hj hCj hCs hfin
          go_wp2
          go_ret
          exact ⟨rfl, HF.out, hbj⟩

end Go.Proofs.Ytambhopkacgddaa

/- Walk: Strands. -/
namespace Go.Proofs.Ytambhopkacgddaa
open Go.RowKit

theorem next59 (A B : Option Addr) (ns cs nm cm gd : Nat) (lp : Int) (mate : List Int) (m : Nat → Nat) (w : World) (hd : DB w gd A ns cs B nm cm lp) (hm : RI w B nm mate) (hmm : Mates mate nm m) (hnm : nm ≤ 256) :
    Next w 46 gd (fs m) nm := fun W x hW hx => by
  have hb0 := hd.keep hW
  obtain ⟨d0, d1, d2, dlt⟩ := hb0
  have C := Lib.hid (nextstrand_nat A B ns cs nm cm lp mate m x W (hm.keep hW) hx hmm hnm _ rfl)
  clear hd hm hmm hW
  go_enter Try.func46, Try.ntmps46
  go_wp2_with (go_at_call 47; ((with_reducible refine C.out.mono ?_); rintro e w1 ⟨rfl, hb1⟩))
  go_ret
  exact ⟨rfl, hb1⟩
theorem asks58 (A B : Option Addr) (ns cs nm cm gd : Nat) (lp : Int) (signs : List Int) (w : World) (hd : DB w gd A ns cs B nm cm lp) (hs : RI w A ns signs) (hnm : nm = 4 * ns) (hns : ns ≤ 64) :
    Asks w 43 #[.pointer (some ⟨gd, 0, none⟩)] (outB signs) nm := fun W x hW hx => by
  show Calls Try.prog 43 #[.int .i64 (x : Nat), .pointer (some ⟨gd, 0, none⟩)] W _
  have hb0 := hd.keep hW
  obtain ⟨d0, d1, d2, dlt⟩ := hb0
  have C := Lib.hid (outgoing_any A B ns cs nm cm lp signs x W (hs.keep hW) (by omega) (by omega))
  clear hd hs hW hnm
  go_enter Try.func43, Try.ntmps43
  go_wp2_with (go_at_call 44; ((with_reducible refine C.out.mono ?_); rintro e w1 ⟨rfl, hb1⟩))
  go_ret
  exact ⟨rfl, hb1⟩


set_option maxHeartbeats 1600000 in
theorem strands_any (A B : Option Addr) (ns cs nm cm : Nat) (lp : Int) (signs mate : List Int) (w : World) (h : DV w A ns B nm signs mate) :
    Calls Try.prog 29 #[dval A ns cs B nm cm lp] w (CycsPost w (strandsM signs mate lp)) := by
  have hd := DB.new w A ns cs B nm cm lp
  obtain ⟨d0, d1, d2, dlt⟩ := hd
  have hb0 := below_alloc w (dbox A ns cs B nm cm lp)
  have hls := h.hs.1
  have hlm := h.hm.1
  cases hv : validB signs mate lp with
  | false =>
    have e : strandsM signs mate lp = [] := by simp [strandsM, hv]
    rw [e]
    have CV := Lib.hid ((h.keep hb0).valid cs cm lp false hv)
    clear e hv hls hlm
    go_enter Try.func29, Try.ntmps29
    go_wp2_with (go_at_call 23; ((with_reducible refine CV.out.mono ?_); rintro e w1 ⟨rfl, hb1⟩))
    go_ret
    exact ⟨_, rfl, OO.nil _ _, below_step hb0 hb1⟩
  | true =>
    have e : strandsM signs mate lp = cycL (fs (matesOf mate)) nm (outB signs) nm := by simp [strandsM, hv, hlm]
    rw [e]
    have CV := Lib.hid ((h.keep hb0).valid cs cm lp true hv)
    obtain ⟨v1, v2, v3, v4⟩ := validB_out hv
    rw [hls, hlm] at v1
    obtain ⟨l1, l2, l3, l4⟩ := limB_out v1
    have HM := Lib.hid (matesOf_mates v3 hlm)
    have HI := Lib.hid (matesOf_invol v3 hlm)
    have HL := Lib.hid l2
    have HD := Lib.hid (DB.new w A ns cs B nm cm lp)
    have CCf : ∀ w1 : World, Below (w.alloc (dbox A ns cs B nm cm lp)).heap.size (w.alloc (dbox A ns cs B nm cm lp)) w1 →
        Hid (Calls Try.prog 45 #[.int .i64 (nm : Nat), .func (.func 43) #[] #[.pointer (some ⟨w.heap.size, 0, none⟩)], .func (.func 46) #[] #[.pointer (some ⟨w.heap.size, 0, none⟩)]] w1 (CycsPost w1 (cycL (fs (matesOf mate)) nm (outB signs) nm))) := fun w1 hb1 =>
      cycles_any 46 43 w.heap.size nm #[.pointer (some ⟨w.heap.size, 0, none⟩)] (fs (matesOf mate)) (outB signs) w1 enters59 enters58
        (next59 A B ns cs nm cm w.heap.size lp mate (matesOf mate) w1 (HD.out.keep hb1) (h.hm.keep (below_step hb0 hb1)) HM.out (by have := HL.out; omega)) (asks58 A B ns cs nm cm w.heap.size lp signs w1 (HD.out.keep hb1) (h.hs.keep (below_step hb0 hb1)) HL.out l1) (by have := HI.out; rw [HL.out] at this ⊢; exact this.perm 2) (by have := HL.out; omega)
    clear e hv hls hlm v1 v2 v3 v4 l2
    go_enter Try.func29, Try.ntmps29
    have hmf : ∀ (fn : Fn) (first cap : Array Value) (w : World), (Instr.makeFunc fn first cap).run Try.prog w = .ok (.func fn first cap) w := fun _ _ _ _ => rfl
    go_wp2_with (first
      | (go_at_call 23; ((with_reducible refine CV.out.mono ?_); rintro e w1 ⟨rfl, hb1⟩; have d0' := (hb1.cell (p := ⟨w.heap.size, 0, none⟩) dlt).trans d0; have d1' := (hb1.cell (p := ⟨w.heap.size, 1, none⟩) dlt).trans d1; have d2' := (hb1.cell (p := ⟨w.heap.size, 2, none⟩) dlt).trans d2))
      | (go_at_call 45; ((with_reducible refine (CCf _ hb1).out.mono ?_); rintro e w2 ⟨v, rfl, hov, hb2⟩)))
    go_ret
    have hb01 := below_step hb0 hb1
    exact ⟨_, rfl, hov.mono hb01.size, below_step hb01 hb2⟩

end Go.Proofs.Ytambhopkacgddaa

/- Walk: Components. -/
namespace Go.Proofs.Ytambhopkacgddaa
open Go.RowKit

set_option maxHeartbeats 1600000 in
theorem components_any (A B : Option Addr) (ns cs nm cm : Nat) (lp : Int) (signs mate : List Int) (w : World) (h : DV w A ns B nm signs mate) :
    Calls Try.prog 24 #[dval A ns cs B nm cm lp] w fun e w' => e = .returned (.int .i64 (compM signs mate lp)) ∧ Below w.heap.size w w' := by
  have hd := DB.new w A ns cs B nm cm lp
  obtain ⟨d0, d1, d2, dlt⟩ := hd
  have hb0 := below_alloc w (dbox A ns cs B nm cm lp)
  have hls := h.hs.1
  have hlm := h.hm.1
  cases hv : validB signs mate lp with
  | false =>
    have e : compM signs mate lp = 0 := by simp [compM, hv]
    rw [e]
    have CV := Lib.hid ((h.keep hb0).valid cs cm lp false hv)
    clear e hv hls hlm
    go_enter Try.func24, Try.ntmps24
    go_wp2_with (go_at_call 23; ((with_reducible refine CV.out.mono ?_); rintro e w1 ⟨rfl, hb1⟩))
    go_ret
    exact ⟨rfl, below_step hb0 hb1⟩
  | true =>
    have CV := Lib.hid ((h.keep hb0).valid cs cm lp true hv)
    obtain ⟨v1, v2, v3, v4⟩ := validB_out hv
    rw [hls, hlm] at v1
    obtain ⟨l1, l2, l3, l4⟩ := limB_out v1
    have hsl := strandsM_le (signs := signs) (mate := mate) (lp := lp)
    rw [compM_add hv]
    have H := Lib.hid h
    have CS : ∀ W : World, Below (w.alloc (dbox A ns cs B nm cm lp)).heap.size (w.alloc (dbox A ns cs B nm cm lp)) W → Hid (Calls Try.prog 29 #[dval A ns cs B nm cm lp] W (CycsPost W (strandsM signs mate lp))) := fun W hb =>
      strands_any A B ns cs nm cm lp signs mate W (H.out.keep (below_step hb0 hb))
    generalize strandsM signs mate lp = xss at *
    have hwr : IntKind.i64.wrap ((xss.length : Int) + lp) = (xss.length : Int) + lp := IntWalk.i64_in _ (by omega)
    clear hv hls hlm v1 v2 v3 v4 l1 l2 h
    go_enter Try.func24, Try.ntmps24
    go_upto_region 3 with (go_at_call 23; ((with_reducible refine CV.out.mono ?_); rintro e w1 ⟨rfl, hb1⟩))
    have c0 := (hb1.cell (p := ⟨w.heap.size, 0, none⟩) dlt).trans d0
    have c1 := (hb1.cell (p := ⟨w.heap.size, 1, none⟩) dlt).trans d1
    have c2 := (hb1.cell (p := ⟨w.heap.size, 2, none⟩) dlt).trans d2
    have wlt := Nat.lt_of_lt_of_le dlt hb1.size
    have hbD : Below w1.heap.size w1 w1.drew := (Below.refl _ _).drew
    go_region_held3 (fun w' => w'.cell? ⟨w.heap.size, 0, none⟩ = some (.slice A ns cs) ∧ w'.cell? ⟨w.heap.size, 1, none⟩ = some (.slice B nm cm) ∧ w'.cell? ⟨w.heap.size, 2, none⟩ = some (.int .i64 lp))
      (first
        | go_keep
        | exact ⟨(hbB.cell (p := ⟨w.heap.size, 0, none⟩) wlt).trans c0, (hbB.cell (p := ⟨w.heap.size, 1, none⟩) wlt).trans c1, (hbB.cell (p := ⟨w.heap.size, 2, none⟩) wlt).trans c2⟩)
      (first
        | (go_at_call 29; ((with_reducible refine (CS _ (below_step hb1 hbD)).out.mono ?_); rintro e w2 ⟨v, rfl, hov, hb2⟩; have hbB := below_step hbD hb2; obtain ⟨Av, cv, rfl⟩ := hov.form)))
    go_wp2
    go_ret
    exact ⟨rfl, below_step hb0 (below_step hb1 hbB)⟩

end Go.Proofs.Ytambhopkacgddaa

/- Walks: Ints, Lists (the reference's comparisons), Great. -/
namespace Go.Proofs.Ytambhopkacgddaa
open Go.RowKit

theorem below_drewN {B : Nat} {a w : World} (h : Below B a w) (n : Nat) : Below B a (w.drewN n) := ⟨h.os, h.tape, h.output, h.size, h.block⟩

theorem eq_of_getD {xs ys : List Int} (h1 : xs.length = ys.length) (h2 : ∀ j, j < xs.length → xs.getD j 0 = ys.getD j 0) : xs = ys := by
  apply List.ext_getElem h1
  intro i a b
  have := h2 i a
  simpa [List.getD, a, b] using this
theorem eq_of_getDL {xs ys : List (List Int)} (h1 : xs.length = ys.length) (h2 : ∀ j, j < xs.length → xs.getD j [] = ys.getD j []) : xs = ys := by
  apply List.ext_getElem h1
  intro i a b
  have := h2 i a
  simpa [List.getD, a, b] using this

set_option maxHeartbeats 800000 in
theorem ints_r (r : Bool) (A B : Option Addr) (n c m d : Nat) (xs ys : List Int) (w : World) (hx : RI w A n xs) (hy : RI w B m ys) (hn : n ≤ 1000000000000000) (hm : m ≤ 1000000000000000) (hr : r = decide (xs = ys)) :
    Calls Try.prog 14 #[.slice A n c, .slice B m d] w fun e w' => e = .returned (.bool r) ∧ Below w.heap.size w w' := by
  have hlx := hx.1
  have hly := hy.1
  by_cases hnm : n = m
  · subst hnm
    have HLX := Lib.hid hlx
    have HLY := Lib.hid hly
    have HR := Lib.hid hr
    have HE : Hid (∀ j, j < 0 → xs.getD j 0 = ys.getD j 0) := fun j hj => absurd hj (by omega)
    clear hlx hly hr
    go_enter Try.func14, Try.ntmps14
    go_wp2
    go_loopw [5] (fun i wr => ∃ k : Nat, k ≤ n ∧ i = .int .i64 k ∧ Below w.heap.size w wr ∧ Hid (∀ j, j < k → xs.getD j 0 = ys.getD j 0)) (fun i _ => n - (intOf i).toNat)
    case atStart => exact ⟨0, by omega, rfl, Below.refl _ _, HE⟩
    case round =>
      obtain ⟨k, hk, rfl, hbr, hall⟩ := hrel
      by_cases hlt : k < n
      · obtain ⟨b, off, rfl, hb, hc⟩ := (hx.keep hbr).2 (by omega)
        obtain ⟨b', off', rfl, hb', hc'⟩ := (hy.keep hbr).2 (by omega)
        have h1 := hc k hlt
        have h2 := hc' k hlt
        have hk0 : (0 : Int) ≤ (k : Int) := Int.natCast_nonneg _
        have hk1 : (k : Int) < (n : Int) := by omega
        by_cases he : xs.getD k 0 = ys.getD k 0
        · have hall' : Hid (∀ j, j < k + 1 → xs.getD j 0 = ys.getD j 0) := fun j hj => by
            by_cases e : j = k
            · subst e; exact he
            · exact hall.out j (by omega)
          rw [← he] at h2
          clear hx hy hc hc' he
          generalize xs.getD k 0 = x at *
          go_wp2
          go_quiet (fail)
          go_wp2
          go_roundw
          case rel => exact ⟨k + 1, by omega, by go_num, below_drewN hbr _, hall'⟩
          case measure => simp [intOf]; omega
        · have hne : (xs.getD k 0 != ys.getD k 0) = true := by simp only [bne_iff_ne, ne_eq]; exact he
          have hrf : r = false := by
            rw [HR.out, decide_eq_false_iff_not]
            intro e; exact he (by rw [e])
          subst hrf
          clear hx hy hc hc' he HR
          generalize xs.getD k 0 = x at *
          generalize ys.getD k 0 = y at *
          go_wp2
          go_quiet (fail)
          go_wp2
          go_ret
          exact ⟨rfl, below_drewN hbr _⟩
      · obtain rfl : k = n := by omega
        have hrt : r = true := by
          rw [HR.out, decide_eq_true_eq]
          exact eq_of_getD (by rw [HLX.out, HLY.out]) (fun j hj => hall.out j (by rw [← HLX.out]; exact hj))
        subst hrt
        clear hx hy HR
        go_wp2
        go_ret
        exact ⟨rfl, hbr⟩
  · have hrf : r = false := by
      rw [hr, decide_eq_false_iff_not]
      intro e; rw [e] at hlx; omega
    subst hrf
    have hne : ((n : Int) != (m : Int)) = true := by simp only [bne_iff_ne, ne_eq]; omega
    clear hx hy hlx hly hr hnm
    go_enter Try.func14, Try.ntmps14
    go_wp2
    go_ret
    exact ⟨rfl, Below.refl _ _⟩

/-- The slice value 'slice A n _' reads as the list xss of lists of ints. -/
def RO (w : World) (A : Option Addr) (n : Nat) (xss : List (List Int)) : Prop :=
  xss.length = n ∧ (0 < n → ∃ b off, A = some ⟨b, off, none⟩ ∧ b < w.heap.size ∧ ∀ j, j < n → ∃ A' n' c', w.cell? ⟨b, off + j, none⟩ = some (.slice A' n' c') ∧ RI w A' n' (xss.getD j []))
theorem RO.keep {w w' : World} {A : Option Addr} {n : Nat} {xss : List (List Int)} (h : RO w A n xss) (hb : Below w.heap.size w w') : RO w' A n xss :=
  ⟨h.1, fun hn => by
    obtain ⟨b, off, e, hlt, hc⟩ := h.2 hn
    refine ⟨b, off, e, Nat.lt_of_lt_of_le hlt hb.size, fun j hj => ?_⟩
    obtain ⟨A', n', c', h1, h2⟩ := hc j hj
    exact ⟨A', n', c', (hb.cell (p := ⟨b, off + j, none⟩) hlt).trans h1, h2.keep hb⟩⟩
theorem OO.ro {w : World} {B : Nat} {v : Value} {xss : List (List Int)} (h : OO w B v xss) : ∃ A c, v = .slice A xss.length c ∧ RO w A xss.length xss := by
  obtain ⟨vs, h1, h2, h3⟩ := h
  rcases h1.2 with ⟨h4, h5⟩ | ⟨g, cap, cur, h4, _, hg, _⟩
  · refine ⟨none, 0, by rw [h4, ← h2, h5], rfl, fun hn => by omega⟩
  · refine ⟨_, cap, by rw [h4, h2], rfl, fun hn => ⟨g, 0, rfl, ?_, fun j hj => ?_⟩⟩
    · rcases Nat.lt_or_ge g w.heap.size with hlt | hge
      · exact hlt
      · rw [Array.getElem?_eq_none hge] at hg; cases hg
    · have hj' : j < vs.length := by omega
      have h6 : w.cell? ⟨g, j, none⟩ = vs[j]? := by
        have h7 : w.ownsRow B 22 1 (.slice (some ⟨g, 0, none⟩) vs.length cap) vs.length vs := by rw [← h4]; exact h1
        exact World.ownsRow.cellAt h7 j (by omega)
      have h8 := h3 j hj
      have h9 : vs.getD j undef = vs[j] := by simp [List.getD, hj']
      rw [h9] at h8
      have hsl : ∃ A' n' c', vs[j] = .slice A' n' c' := by
        rcases h8.form with ⟨e, _⟩ | ⟨g', cap', e, _⟩
        · exact ⟨_, _, _, e⟩
        · exact ⟨_, _, _, e⟩
      obtain ⟨A', n', c', e⟩ := hsl
      rw [e] at h8
      exact ⟨A', n', c', by rw [Nat.zero_add, h6, List.getElem?_eq_getElem hj', e], h8.ri⟩

theorem RO.at_ {w : World} {A : Option Addr} {n : Nat} {xss : List (List Int)} (h : RO w A n xss) (hn : 0 < n) : ∃ b off, A = some ⟨b, off, none⟩ ∧ b < w.heap.size := by
  obtain ⟨b, off, e, hb, _⟩ := h.2 hn; exact ⟨b, off, e, hb⟩
theorem RO.el {w : World} {b off n : Nat} {xss : List (List Int)} (h : RO w (some ⟨b, off, none⟩) n xss) (j : Nat) (hj : j < n) : ∃ A' n' c', w.cell? ⟨b, off + j, none⟩ = some (.slice A' n' c') ∧ RI w A' n' (xss.getD j []) := by
  obtain ⟨b', off', e, hb, hc⟩ := h.2 (by omega)
  injection e with e; injection e with e1 e2; subst e1; subst e2
  exact hc j hj

end Go.Proofs.Ytambhopkacgddaa

/- Walk: dowker.Of. -/
namespace Go.Proofs.Ytambhopkacgddaa
open Go.RowKit

/-- The error and the code of a diagram. -/
def ofE (s m : List Int) (lp : Int) : Int := if validB s m lp = false then 1 else if s.length = 0 then 8 else if 1 < compM s m lp then 16 else 0
def ofL (s m : List Int) (lp : Int) : List Int := if validB s m lp = false then [] else if s.length = 0 then [] else if 1 < compM s m lp then [] else cdF ((strandsM s m lp).getD 0 []) s.length
def DOfPost (s m : List Int) (lp : Int) (w : World) (e : Ending) (w' : World) : Prop :=
  ∃ A n c, e = .returned (.tuple #[.slice A n c, .int .i64 (ofE s m lp)]) ∧ RI w' A n (ofL s m lp) ∧ Below w.heap.size w w'

set_option maxHeartbeats 3200000 in
set_option maxRecDepth 100000 in
theorem dof_any (A B : Option Addr) (ns cs nm cm : Nat) (lp : Int) (s m : List Int) (w : World) (h : DV w A ns B nm s m) :
    Calls Try.prog 11 #[dval A ns cs B nm cm lp] w (DOfPost s m lp w) := by
  have hd := DB.new w A ns cs B nm cm lp
  obtain ⟨d0, d1, d2, dlt⟩ := hd
  have hb0 := below_alloc w (dbox A ns cs B nm cm lp)
  have hls := h.hs.1
  have HDV := Lib.hid (h.keep hb0)
  cases hv : validB s m lp with
  | false =>
    have CV := Lib.hid (HDV.out.valid cs cm lp false hv)
    have HE : Hid (ofE s m lp = 1 ∧ ofL s m lp = []) := Lib.hid (by simp [ofE, ofL, hv])
    clear h hv hls
    go_enter Try.func11, Try.ntmps11
    go_wp2_with (go_at_call 23; ((with_reducible refine CV.out.mono ?_); rintro e w1 ⟨rfl, hb1⟩))
    go_ret2
    obtain ⟨z1, z2⟩ := HE.out
    exact ⟨none, 0, 0, by rw [z1]; rfl, by rw [z2]; exact RI.nil _ _, below_step hb0 hb1⟩
  | true =>
    have CV := Lib.hid (HDV.out.valid cs cm lp true hv)
    by_cases h0 : ns = 0
    · have HE : Hid (ofE s m lp = 8 ∧ ofL s m lp = []) := Lib.hid (by simp [ofE, ofL, hv, hls, h0])
      have h0' : (ns : Int) = 0 := by omega
      clear h hv hls h0
      go_enter Try.func11, Try.ntmps11
      go_wp2_with (go_at_call 23; ((with_reducible refine CV.out.mono ?_); rintro e w1 ⟨rfl, hb1⟩; have e0 := (hb1.cell (p := ⟨w.heap.size, 0, none⟩) dlt).trans d0))
      go_ret2
      obtain ⟨z1, z2⟩ := HE.out
      exact ⟨none, 0, 0, by rw [z1]; rfl, by rw [z2]; exact RI.nil _ _, below_step hb0 hb1⟩
    · have h0' : ((ns : Int) == 0) = false := by simp; omega
      have CC : ∀ W, Below (w.alloc (dbox A ns cs B nm cm lp)).heap.size (w.alloc (dbox A ns cs B nm cm lp)) W → Hid (Calls Try.prog 24 #[dval A ns cs B nm cm lp] W fun e w' => e = .returned (.int .i64 (compM s m lp)) ∧ Below W.heap.size W w') := fun W hb =>
        components_any A B ns cs nm cm lp s m W (HDV.out.keep hb)
      by_cases hc : 1 < compM s m lp
      · have HE : Hid (ofE s m lp = 16 ∧ ofL s m lp = []) := Lib.hid (by simp [ofE, ofL, hv, hls, h0, hc])
        obtain ⟨cN, hcN⟩ : ∃ cN, compM s m lp = cN := ⟨_, rfl⟩
        simp only [hcN] at CC
        rw [hcN] at hc
        clear h hv hls h0 hcN
        go_enter Try.func11, Try.ntmps11
        go_wp2_with (first
          | (go_at_call 23; ((with_reducible refine CV.out.mono ?_); rintro e w1 ⟨rfl, hb1⟩; have e0 := (hb1.cell (p := ⟨w.heap.size, 0, none⟩) dlt).trans d0; have e1 := (hb1.cell (p := ⟨w.heap.size, 1, none⟩) dlt).trans d1; have e2 := (hb1.cell (p := ⟨w.heap.size, 2, none⟩) dlt).trans d2))
          | (go_at_call 24; ((with_reducible refine (CC _ hb1).out.mono ?_); rintro e w2 ⟨rfl, hb2⟩)))
        go_ret2
        obtain ⟨z1, z2⟩ := HE.out
        exact ⟨none, 0, 0, by rw [z1]; rfl, by rw [z2]; exact RI.nil _ _, below_step (below_step hb0 hb1) hb2⟩
      · obtain ⟨hlp0, st, hst, hk⟩ := knot_one hv (by omega) (by omega)
        clear hlp0
        have HE : Hid (ofE s m lp = 0 ∧ ofL s m lp = cdF st ns) := Lib.hid (by simp [ofE, ofL, hv, hls, h0, hc, hst])
        have CS : ∀ W, Below (w.alloc (dbox A ns cs B nm cm lp)).heap.size (w.alloc (dbox A ns cs B nm cm lp)) W → Hid (Calls Try.prog 29 #[dval A ns cs B nm cm lp] W (CycsPost W [st])) := fun W hb => by
          have := strands_any A B ns cs nm cm lp s m W (HDV.out.keep hb)
          rw [hst] at this; exact this
        have hn64 : ns ≤ 64 := by have := (bk_facts hv).le; omega
        rw [hls] at hk
        have CO : ∀ (W : World) (A' : Option Addr) (c' : Nat), RI W A' (2 * ns) st → Hid (Calls Try.prog 28 #[.slice A' (2 * ns) c'] W fun e w' => e = .returned (.slice (some ⟨W.heap.size, 0, none⟩) ns ns) ∧ Arr w' W.heap.size 3 ns (zv fun i => evK st ns (cr st (2 * i))) ∧ Below W.heap.size W w') := fun W A' c' hr =>
          codeOf_any A' ns c' st W hr hn64 (by omega) hk.rg
        have HKL := Lib.hid hk.len
        obtain ⟨cN, hcN⟩ : ∃ cN, compM s m lp = cN := ⟨_, rfl⟩
        simp only [hcN] at CC
        rw [hcN] at hc
        clear h hv hls h0 hcN hst hk
        go_enter Try.func11, Try.ntmps11
        go_wp2_with (first
          | (go_at_call 23; ((with_reducible refine CV.out.mono ?_); rintro e w1 ⟨rfl, hb1⟩; have e0 := (hb1.cell (p := ⟨w.heap.size, 0, none⟩) dlt).trans d0; have e1 := (hb1.cell (p := ⟨w.heap.size, 1, none⟩) dlt).trans d1; have e2 := (hb1.cell (p := ⟨w.heap.size, 2, none⟩) dlt).trans d2; have elt := Nat.lt_of_lt_of_le dlt hb1.size))
          | (go_at_call 24; ((with_reducible refine (CC _ hb1).out.mono ?_); rintro e w2 ⟨rfl, hb2⟩; have hb12 := below_step hb1 hb2; have f0 := (hb2.cell (p := ⟨w.heap.size, 0, none⟩) elt).trans e0; have f1 := (hb2.cell (p := ⟨w.heap.size, 1, none⟩) elt).trans e1; have f2 := (hb2.cell (p := ⟨w.heap.size, 2, none⟩) elt).trans e2))
          | (go_at_call 29; ((with_reducible refine (CS _ hb12).out.mono ?_); rintro e w3 ⟨v3, rfl, ho, hb3⟩; obtain ⟨A3, c3, rfl, hro⟩ := ho.ro; obtain ⟨b3, o3, rfl, hbl⟩ := hro.at_ (Nat.zero_lt_succ _); obtain ⟨A4, n4, c4, hcel, hri⟩ := hro.el 0 (Nat.zero_lt_succ _); rw [Nat.add_zero] at hcel; obtain rfl : n4 = 2 * ns := hri.1.symm.trans HKL.out; have hb13 := below_step hb12 hb3))
          | (go_at_call 28; ((with_reducible refine (CO _ _ _ hri).out.mono ?_); rintro e w4 ⟨rfl, hA4, hb4⟩)))
        go_ret2
        obtain ⟨z1, z2⟩ := HE.out
        exact ⟨_, ns, ns, by rw [z1]; rfl, by rw [z2]; exact ri_arr hA4, below_step (below_step hb0 hb13) hb4⟩

end Go.Proofs.Ytambhopkacgddaa

/- The example of the chapter on Dowker codes, computed. -/
namespace Go.Proofs.Ytambhopkacgddaa
open Go.RowKit

def exC : List Int := [4, 6, 2]
def exS : List Int := [1, 1, 1]
def exM : List Int := [5, 8, 11, 6, 9, 0, 3, 10, 1, 4, 7, 2]
theorem ex_inL : inL exC := by
  intro j
  by_cases h : j < 3
  · match j, h with
    | 0, _ => decide
    | 1, _ => decide
    | 2, _ => decide
  · have : exC.getD j 0 = 0 := by simp [List.getD, exC, show 3 ≤ j by omega]
    rw [this]; decide
theorem ex_dv : dvB exC = true := by decide +kernel
theorem ex_mk : mkM exC exS = exM := by decide +kernel
theorem ex_lab : IsLab (matesOf exM) 12 3 (fun _ => 0) := by
  refine ⟨fun c hc => ⟨Nat.zero_le _, ?_⟩, fun _ _ => rfl⟩
  have h0 : Conn (matesOf exM) 12 0 1 := Conn.step 0 (by omega) (Conn.refl 0)
  have h1 : Conn (matesOf exM) 12 0 2 := Conn.step 1 (by omega) (Conn.refl 0)
  match c, hc with
  | 0, _ => exact .refl _
  | 1, _ => exact h0.symm
  | 2, _ => exact h1.symm
theorem ex_sph : sphM exM 3 = true := by
  show sphB (ufLab (matesOf exM) 12) (ff (matesOf exM)) (4 * 3) 3 = true
  rw [sphB_congr (G := fun _ => 0) fun c hc => (ufLab_isLab (matesOf exM) 12 3).unique ex_lab c hc]
  decide +kernel
theorem ex_valid : validB exS exM 0 = true := by
  unfold validB
  rw [show exS.length = 3 from rfl, ex_sph]
  decide +kernel
theorem ex_strands : strandsM exS exM 0 = [[1, 10, 5, 2, 9, 6]] := by
  unfold strandsM; rw [if_pos ex_valid]; decide +kernel
theorem ex_dgS : dgS exC = some exS := by
  have h0 : srch exC 0 exS = some exS := by
    show (if validB exS (mkM exC exS) 0 = true then some exS else none) = _
    rw [ex_mk, ex_valid]; rfl
  have h1 : srch exC 1 [1, 1] = some exS := by
    show (match srch exC 0 exS with | some l => some l | none => _) = _
    rw [h0]
  show (match srch exC 1 [1, 1] with | some l => some l | none => _) = _
  rw [h1]
theorem ex_dg : dgE exC = 0 ∧ dgL exC = exS ∧ dgM exC = exM := by
  have h14 : ¬ 14 < exC.length := by decide
  have hf : ¬ (true = false) := by decide
  refine ⟨?_, ?_, ?_⟩
  · unfold dgE; rw [ex_dv, if_neg hf, if_neg h14, ex_dgS]
  · unfold dgL; rw [ex_dv, if_neg hf, if_neg h14, ex_dgS]
  · unfold dgM; rw [ex_dv, if_neg hf, if_neg h14, ex_dgS]; exact ex_mk
theorem ex_of : ofE exS exM 0 = 0 ∧ ofL exS exM 0 = exC := by
  have hf : ¬ (true = false) := by decide
  have h0 : ¬ exS.length = 0 := by decide
  have h1 : ¬ 1 < compM exS exM 0 := by unfold compM; rw [if_pos ex_valid, ex_strands]; decide
  refine ⟨?_, ?_⟩
  · unfold ofE; rw [ex_valid, if_neg hf, if_neg h0, if_neg h1]
  · unfold ofL; rw [ex_valid, if_neg hf, if_neg h0, if_neg h1, ex_strands]; decide +kernel

end Go.Proofs.Ytambhopkacgddaa

/- Walk: awake of layer 4. -/
namespace Go.Proofs.Ytambhopkacgddaa
open Go.RowKit

theorem ri_lit (w : World) (xs : List Int) : RI (w.alloc (.cells (ints xs).toArray 3)) (some ⟨w.heap.size, 0, none⟩) xs.length xs :=
  ⟨rfl, fun _ => ⟨w.heap.size, 0, rfl, by simp, fun j hj => by
    rw [World.cell?_alloc_at _ _ _ _ rfl, Nat.zero_add]
    simp [ints, List.getD, hj]⟩⟩
theorem ex_signs (A : Option Addr) (c : Nat) (W : World) (h : RI W A 3 exC) : Calls Try.prog 18 #[.slice A 3 c] W fun e w' => ∃ A' cs, e = .returned (.tuple #[.slice A' 3 cs, .int .i64 0]) ∧ RI w' A' 3 exS ∧ Below W.heap.size W w' := by
  refine (dsigns_any A 3 c exC W h (by omega) ex_inL).mono ?_
  rintro e w' ⟨A', ns, cs, rfl, h1, hb⟩
  rw [ex_dg.2.1] at h1
  obtain rfl : ns = 3 := h1.1.symm
  exact ⟨A', cs, by rw [ex_dg.1], h1, hb⟩
theorem ex_diagram (A : Option Addr) (c : Nat) (W : World) (h : RI W A 3 exC) : Calls Try.prog 19 #[.slice A 3 c] W fun e w' => ∃ A' cs B cm, e = .returned (.tuple #[dval A' 3 cs B 12 cm 0, .int .i64 0]) ∧ DV w' A' 3 B 12 exS exM ∧ Below W.heap.size W w' := by
  refine (diagram_any A 3 c exC W h (by omega) ex_inL).mono ?_
  rintro e w' ⟨A', ns, cs, B, nm, cm, rfl, h1, h2, hb⟩
  rw [ex_dg.2.1] at h1
  rw [ex_dg.2.2] at h2
  obtain rfl : ns = 3 := h1.1.symm
  obtain rfl : nm = 12 := h2.1.symm
  exact ⟨A', cs, B, cm, by rw [ex_dg.1], ⟨h1, h2, by omega, by omega, by decide⟩, hb⟩
theorem ex_dof (A B : Option Addr) (cs cm : Nat) (W : World) (h : DV W A 3 B 12 exS exM) : Calls Try.prog 11 #[dval A 3 cs B 12 cm 0] W fun e w' => ∃ A' c, e = .returned (.tuple #[.slice A' 3 c, .int .i64 0]) ∧ RI w' A' 3 exC ∧ Below W.heap.size W w' := by
  refine (dof_any A B 3 cs 12 cm 0 exS exM W h).mono ?_
  rintro e w' ⟨A', n, c, rfl, h1, hb⟩
  rw [ex_of.2] at h1
  obtain rfl : n = 3 := h1.1.symm
  exact ⟨A', c, by rw [ex_of.1], h1, hb⟩

set_option maxHeartbeats 3200000 in
set_option maxRecDepth 100000 in
theorem dawake_any (w : World) : Calls Try.prog 10 #[] w fun e w' => e = .returned (.bool true) ∧ Below w.heap.size w w' := by
  go_enter Try.func10, Try.ntmps10
  go_wp2_with fail
  refine (ex_signs _ _ _ (ri_lit w exC)).mono ?_
  rintro e w1 ⟨A1, c1, rfl, hA1, hb1⟩
  have hw1 := below_step (below_alloc w _) hb1
  clear hb1
  go_wp2_with fail
  refine (ex_diagram _ _ _ (ri_lit w1 exC)).mono ?_
  rintro e w2 ⟨A2, c2, B2, m2, rfl, hD2, hb2⟩
  have hb12 := below_step (below_alloc w1 _) hb2
  have hw2 := below_step hw1 hb12
  have hA2 := hA1.keep hb12
  clear hb2 hw1 hA1 hb12
  go_wp2_with fail
  refine (ex_dof _ _ _ _ _ (hD2.keep (below_alloc _ _))).mono ?_
  rintro e w3 ⟨A3, c3, rfl, hA3, hb3⟩
  have hb23 := below_step (below_alloc w2 _) hb3
  have hw3 := below_step hw2 hb23
  have hA23 := hA2.keep hb23
  clear hb3 hw2 hA2 hb23 hD2
  go_wp2_with fail
  refine (ints_r true _ _ 3 _ 3 _ exS exS _ (hA23.alloc _) (ri_lit w3 exS) (by omega) (by omega) rfl).mono ?_
  rintro e w4 ⟨rfl, hb4⟩
  have hb34 := below_step (below_alloc w3 _) hb4
  have hw4 := below_step hw3 hb34
  have hA34 := hA3.keep hb34
  clear hb4 hw3 hA3 hb34 hA23
  go_wp2_with fail
  refine (ints_r true _ _ 3 _ 3 _ exC exC _ (hA34.alloc _) (ri_lit w4 exC) (by omega) (by omega) rfl).mono ?_
  rintro e w5 ⟨rfl, hb5⟩
  have hw5 := below_step hw4 (below_step (below_alloc w4 _) hb5)
  clear hb5 hw4
  go_wp2
  go_ret
  exact ⟨rfl, hw5⟩

end Go.Proofs.Ytambhopkacgddaa

/- Walk: the reference's Valid of a code. -/
namespace Go.Proofs.Ytambhopkacgddaa
open Go.RowKit

set_option maxHeartbeats 3200000 in
set_option maxRecDepth 100000 in
theorem rdvalid_r (r : Bool) (A : Option Addr) (n c : Nat) (code : List Int) (w : World) (hs : RI w A n code) (hn : n ≤ 9223372036854775807) (hI : inL code) (hr : r = dvB code) :
    Calls Try.prog 17 #[.slice A n c] w fun e w' => e = .returned (.bool r) ∧ w = w' := by
  have hl := hs.1
  by_cases h0 : 1 ≤ n ∧ n ≤ 64
  · obtain ⟨h1, h64⟩ := h0
    obtain ⟨b, off, rfl, hb, hc⟩ := hs.2 (by omega)
    have HD := Lib.hid (dv_cnt hl hI h1 h64)
    have HR := Lib.hid hr
    have HC := Lib.hid hc
    clear hr hI hl hs hc
    have hn1 : ¬ (n : Int) < 1 := by omega
    have hn0 : 0 < (n : Int) := by omega
    have hn2 : (n : Int) ≤ 64 := by omega
    go_enter Try.func17, Try.ntmps17
    go_wp2
    go_loop [4, 5, 6] (fun u _ _ => ∃ t : Nat, t ≤ n ∧ u = .int .i64 (2 * (t : Int) + 2) ∧ ∀ t' : Nat, t' < t → cntW code (2 * (t' : Int) + 2) n = 1) (fun u _ _ => (2 * (n : Int) + 2 - intOf u).toNat)
    case atStart => exact ⟨0, by omega, rfl, fun t' h => absurd h (by omega)⟩
    case round =>
      obtain ⟨t, ht, rfl, hok⟩ := hrel
      have HOK := Lib.hid hok
      clear hok
      by_cases hlt : t < n
      · obtain ⟨v, hv⟩ : ∃ v, 2 * (t : Int) + 2 = v := ⟨_, rfl⟩
        have hv1 : 2 ≤ v := by omega
        have hv2 : v ≤ 2 * (n : Int) := by omega
        rw [hv]
        have HV := Lib.hid hv
        have hneg : IntKind.i64.wrap (-v) = -v := IntWalk.i64_in _ (by omega)
        clear hv
        go_wp2
        go_loop [5, 6] (fun f i => ∃ k : Nat, k ≤ n ∧ i = .int .i64 k ∧ f = .int .i64 (cntW code v k : Nat)) (fun _ i => n - (intOf i).toNat)
        case atStart => exact ⟨0, by omega, rfl, rfl⟩
        case round =>
          obtain ⟨k, hk, rfl, rfl⟩ := hrel
          by_cases hkl : k < n
          · have hcell := HC.out k hkl
            have hsucc := cntW_succ code v k
            have hle := cntW_le code v k
            obtain ⟨y, hy⟩ : ∃ y, code.getD k 0 = y := ⟨_, rfl⟩
            rw [hy] at hcell hsucc
            obtain ⟨m, hm⟩ : ∃ m, cntW code v k = m := ⟨_, rfl⟩
            rw [hm] at hsucc hle ⊢
            have HSU := Lib.hid hsucc
            have hm0 : (0 : Int) ≤ (m : Int) := Int.natCast_nonneg _
            have hm1 : (m : Int) ≤ 64 := by omega
            have hk0 : (0 : Int) ≤ (k : Int) := Int.natCast_nonneg _
            have hk1 : (k : Int) < (n : Int) := by omega
            clear hsucc hle hy hm
            by_cases q1 : y = v
            · have e : Hid (((m : Nat) : Int) + 1 = ((cntW code v (k + 1) : Nat) : Int)) := by
                have := HSU.out; rw [if_pos (by simp [q1])] at this; rw [this]; show _ = _; omega
              subst q1
              go_wp2
              go_round
              case rel => exact ⟨k + 1, by omega, by go_num, by rw [e.out]⟩
              case measure => simp [intOf]; omega
            · have q1' : (y == v) = false := by simpa using q1
              by_cases q2 : y = -v
              · have e : Hid (((m : Nat) : Int) + 1 = ((cntW code v (k + 1) : Nat) : Int)) := by
                  have := HSU.out; rw [if_pos (by simp [q2])] at this; rw [this]; show _ = _; omega
                have q2' : (y == -v) = true := by simpa using q2
                clear q2 q1
                go_wp2
                go_round
                case rel => exact ⟨k + 1, by omega, by go_num, by rw [e.out]⟩
                case measure => simp [intOf]; omega
              · have e : Hid (m = cntW code v (k + 1)) := by
                  have := HSU.out; rw [if_neg (by simp [q1, q2])] at this; rw [this]; show _ = _; omega
                have q2' : (y == -v) = false := by simpa using q2
                clear q2 q1
                go_wp2
                go_round
                case rel => exact ⟨k + 1, by omega, by go_num, by rw [← e.out]⟩
                case measure => simp [intOf]; omega
          · obtain rfl : n = k := by omega
            have hle := cntW_le code v n
            have hcn : cntW code v n = 1 ∨ (cntW code v n : Int) ≠ 1 := by omega
            rcases hcn with q | q
            · have hall : ∀ t' : Nat, t' < t + 1 → cntW code (2 * (t' : Int) + 2) n = 1 := fun t' h => by
                by_cases e : t' = t
                · subst e; rw [HV.out]; exact q
                · exact HOK.out t' (by omega)
              have HALL := Lib.hid hall
              have hw2 : IntKind.i64.wrap (v + 2) = v + 2 := IntWalk.i64_in _ (by omega)
              have HW : Hid (v + 2 = 2 * ((t + 1 : Nat) : Int) + 2) := by have := HV.out; show _ = _; push_cast; omega
              rw [q]
              clear hall q hle hkl hk
              go_wp2
              go_round
              case rel => exact ⟨t + 1, by omega, by rw [HW.out], HALL.out⟩
              case measure => have := HW.out; have := HV.out; simp [intOf]; omega
            · have e : r = false := by
                rw [HR.out]
                cases qq : dvB code with
                | false => rfl
                | true => have := HD.out.1 qq t hlt; rw [HV.out] at this; omega
              have HE := Lib.hid e
              obtain ⟨m, hm⟩ : ∃ m : Int, (cntW code v n : Int) = m := ⟨_, rfl⟩
              rw [hm] at q ⊢
              have q' : (m == 1) = false := by simpa using q
              clear e q hm hle hkl hk
              go_wp2
              go_ret
              exact ⟨ret_bool HE.out.symm, rfl⟩
      · obtain rfl : t = n := by omega
        have e : r = true := by
          rw [HR.out]; exact HD.out.2 HOK.out
        have HE := Lib.hid e
        clear e hlt ht
        go_wp2
        go_ret
        exact ⟨ret_bool HE.out.symm, rfl⟩
  · have e : r = false := by
      rw [hr]
      cases q : dvB code with
      | false => rfl
      | true => have := (dvB_iff _).1 q; omega
    have HE := Lib.hid e
    clear e hr hI hs hl
    by_cases h1 : n < 1
    · have h1' : (n : Int) < 1 := by omega
      clear h0
      go_enter Try.func17, Try.ntmps17
      go_wp2
      go_ret
      exact ⟨ret_bool HE.out.symm, rfl⟩
    · have h1' : ¬ (n : Int) < 1 := by omega
      have h2' : 64 < (n : Int) := by omega
      clear h0
      go_enter Try.func17, Try.ntmps17
      go_wp2
      go_ret
      exact ⟨ret_bool HE.out.symm, rfl⟩

end Go.Proofs.Ytambhopkacgddaa

/- Opening a diagram that comes in, and shutting a law's call. -/
namespace Go.Proofs.Ytambhopkacgddaa
open Go.ChangeShapes Go.WideShapes Go.ChangeAt Go.RowKit Go.Joins

theorem Try.own : ownKnob Try.prog.godebug = none := by kernel_rfl
theorem Try.laidOut : laidOutB Try.prog = true := by kernel_rfl
theorem Try.cellsI : Try.prog.cellsOf 3 = 1 := by kernel_rfl
theorem Try.cellsD : Try.prog.cellsOf 24 = 3 := by kernel_rfl

def inI (x : Int) : Prop := -9223372036854775808 ≤ x ∧ x ≤ 9223372036854775807
theorem inI_of_wf {x : Int} (h : (Lit.int .i64 x).wf = true) : inI x := by
  have h1 : IntKind.i64.min = -9223372036854775808 := rfl
  have h2 : IntKind.i64.max = 9223372036854775807 := rfl
  simp only [Lit.wf, Bool.and_eq_true, decide_eq_true_eq] at h
  unfold inI; omega

section
variable {H : Type} {enc : TypeId × Value → H} {W : World}

set_option maxRecDepth 100000 in
/-- A slice of ints that comes in reads as a list. -/
theorem open_ri {fuel : Nat} {v : Value} {x : DataW H × List MemPlace} (h : DataW.trod enc Try.prog W 0 (fun _ => true) true fuel 22 [v] = some x) :
    ∃ A n c xs, v = .slice A n c ∧ RI W A n xs ∧ n ≤ 9223372036854775807 ∧ ∀ y ∈ xs, inI y := by
  rcases open_ints Try.underlying22 Try.underlying3 Try.cellsI h with ⟨hcs, _⟩ | ⟨a, len, cap, zs, hcs, _, hl, hm, hz, _, hcell, hwf⟩
  · injection hcs with hcs _
    exact ⟨none, 0, 0, [], hcs, RI.nil _ _, by omega, fun y hy => by cases hy⟩
  · injection hcs with hcs _
    simp only [if_true] at hz
    refine ⟨some a, len, cap, zs.take len, hcs, ⟨by rw [List.length_take]; omega, fun hn => ?_⟩, by unfold maxLen at hm; omega, fun y hy => inI_of_wf (hwf y (List.mem_of_mem_take hy))⟩
    have h0 := hcell 0 (by omega)
    obtain ⟨b, off, spot⟩ := a
    have hspot : spot = none := by simpa [Addr.add] using World.cell?_spot h0
    subst hspot
    refine ⟨b, off, rfl, ?_, fun j hj => ?_⟩
    · have := World.block_lt_of_cell? W _ h0
      simpa [Addr.add] using this
    · have := hcell j (by omega)
      rw [add_plain] at this
      rw [this]
      simp [List.getD, hj]

set_option maxRecDepth 100000 in
/-- A diagram that comes in. -/
theorem open_diag {base : Nat} {v : Value} {d : DataW H} {p : List MemPlace} (hv : Value.okWide Try.prog W .any base 24 v) (h : DataW.Trod enc Try.prog W 0 (fun _ => true) true 24 v d p) :
    ∃ A ns cs B nm cm lp signs mate, v = dval A ns cs B nm cm lp ∧ RI W A ns signs ∧ RI W B nm mate ∧ ns ≤ 9223372036854775807 ∧ nm ≤ 9223372036854775807 ∧ (∀ y ∈ signs, inI y) ∧ (∀ y ∈ mate, inI y) ∧ inI lp := by
  obtain ⟨c0, c1, c2, y0, y1, y2, m, rfl, _, _, hy0, hy1, hy2⟩ := open_agg3 Try.underlying24 (by kernel_rfl) Try.cellsD hv h
  obtain ⟨A, ns, cs, signs, rfl, r1, l1, q1⟩ := open_ri hy0
  obtain ⟨B, nm, cm, mate, rfl, r2, l2, q2⟩ := open_ri hy1
  obtain ⟨x, e0, _, wx⟩ := DataW.trod_int Try.underlying3 hy2
  simp at e0
  subst e0
  exact ⟨A, ns, cs, B, nm, cm, x, signs, mate, rfl, r1, r2, l1, l2, q1, q2, inI_of_wf wx⟩

set_option maxRecDepth 100000 in
theorem trodAll_keep {W' : World} (hb : Below W.heap.size W W') : ∀ {ts : List TypeId} {vs : List Value} {ds : List (DataW H)} {ps : List MemPlace}, (∀ t ∈ ts, Try.prog.readableRec t = true ∧ t < Try.prog.types.size) →
    (∀ x ∈ ps, x.block < W.heap.size) → DataW.TrodAll enc Try.prog W 0 (fun _ => true) true ts vs ds ps → DataW.TrodAll enc Try.prog W' 0 (fun b => decide (b < W.heap.size)) true ts vs ds ps
  | [], [], [], _, _, _, h => h
  | t :: ts, v :: vs, d :: ds, ps, hr, hlt, h => by
    obtain ⟨p, q, h1, h2, rfl⟩ := h
    obtain ⟨r1, r2⟩ := hr t (by simp)
    exact ⟨p, q, Below.trod Try.laidOut r1 r2 h1 hb (fun x hx => hlt x (by simp [hx])), trodAll_keep hb (fun t ht => hr t (by simp [ht])) (fun x hx => hlt x (by simp [hx])) h2, rfl⟩
  | [], _ :: _, _, _, _, _, h => h.elim
  | [], [], _ :: _, _, _, _, h => h.elim
  | _ :: _, [], _, _, _, _, h => h.elim
  | _ :: _, _ :: _, [], _, _, _, h => h.elim

set_option maxRecDepth 100000 in
/-- A law that answers true and leaves all below as it was meets its specification. -/
theorem law_post {f : Func} {s : ChangeSpec} {args : Array Value} {ds gs : List (DataW H)} {before : List MemPlace} {W' : World}
    (hres : f.resultTypes = #[4]) (hvars : s.vars = []) (hpar : ∀ t ∈ f.params.toList, Try.prog.readableRec t = true ∧ t < Try.prog.types.size)
    (hspec : (s.fn H (ds ++ gs)).results = [.lit (.bool true)] ∧ (s.fn H (ds ++ gs)).args = ds ∧ (s.fn H (ds ++ gs)).vars = [])
    (hW : DataW.Whole enc Try.prog f.params.toList s.vars false W args.toList ds gs before) (hb : Below W.heap.size W W') :
    s.post enc Try.prog f false true false false W args (.bool true) W' := by
  have hlt := fun x hx => hW.lt x hx
  obtain ⟨p, q, hA, hV, e, _⟩ := id hW
  rw [hvars] at hV
  obtain ⟨rfl, rfl⟩ := trodVars_none hV
  rw [List.append_nil] at e
  subst e
  refine ⟨ds, [], before, [], before, [], hW, ?_, ?_, ?_, hb.frame _, fun h => by cases h⟩
  · rw [hspec.1, hres]
    exact trodAll_mk1 (shut_bool Try.underlying4 true)
  · rw [hspec.2.1]
    exact trodAll_keep hb hpar hlt hA
  · rw [hvars, hspec.2.2]
    rfl
end

end Go.Proofs.Ytambhopkacgddaa

/- Walk: the law DowkerValid. -/
namespace Go.Proofs.Ytambhopkacgddaa
open Go.ChangeShapes Go.WideShapes Go.ChangeAt Go.RowKit Go.Joins

theorem inL_of {code : List Int} (h : ∀ z ∈ code, inI z) : inL code := fun j => by
  rcases Nat.lt_or_ge j code.length with hj | hj
  · have e : code.getD j 0 = code[j] := by simp [List.getD, hj]
    rw [e]; exact h _ (List.getElem_mem hj)
  · have e : code.getD j 0 = 0 := by simp [List.getD, hj]
    rw [e]; omega

set_option maxHeartbeats 1600000 in
theorem dkvalid_walk (C : Option Addr) (n cc : Nat) (code : List Int) (w : World) (hC : RI w C n code) (hn : n ≤ 9223372036854775807) (hI : ∀ z ∈ code, inI z) :
    Calls Try.prog 4 #[.slice C n cc] w fun e w' => e = .returned (.bool true) ∧ Below w.heap.size w w' := by
  have CA := Lib.hid (dawake_any w)
  by_cases h80 : 80 < n
  · have h80' : 80 < (n : Int) := by omega
    clear hC hI
    go_enter Try.func4, Try.ntmps4
    go_wp2_with ((with_reducible refine CA.out.mono ?_); rintro e w1 ⟨rfl, hb1⟩)
    go_ret
    exact ⟨rfl, hb1⟩
  · have h80' : ¬ 80 < (n : Int) := by omega
    have CV : ∀ W, Below w.heap.size w W → Hid (Calls Try.prog 16 #[.slice C n cc] W fun e w' => e = .returned (.bool (dvB code)) ∧ Below W.heap.size W w') := fun W hb => dvalid_any C n cc code W (hC.keep hb) hn (inL_of hI)
    have CR : ∀ W, Below w.heap.size w W → Hid (Calls Try.prog 17 #[.slice C n cc] W fun e w' => e = .returned (.bool (dvB code)) ∧ W = w') := fun W hb => rdvalid_r _ C n cc code W (hC.keep hb) hn (inL_of hI) rfl
    obtain ⟨r, hr⟩ : ∃ r, dvB code = r := ⟨_, rfl⟩
    simp only [hr] at CV CR
    clear hC hI hr
    go_enter Try.func4, Try.ntmps4
    go_wp2_with (first
      | (go_at_call 10; ((with_reducible refine CA.out.mono ?_); rintro e w1 ⟨rfl, hb1⟩))
      | (go_at_call 16; ((with_reducible refine (CV _ hb1).out.mono ?_); rintro e w2 ⟨rfl, hb2⟩; have hb12 := below_step hb1 hb2))
      | (go_at_call 17; ((with_reducible refine (CR _ hb12).out.mono ?_); rintro e w3 ⟨rfl, rfl⟩)))
    go_ret
    exact ⟨by simp, hb12⟩

end Go.Proofs.Ytambhopkacgddaa
