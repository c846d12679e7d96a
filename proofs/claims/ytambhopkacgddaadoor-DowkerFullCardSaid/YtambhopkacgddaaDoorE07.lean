import Derived.Test.YtambhopkacgddaaDoorE06
import Derived.Shelf.Bits.Mul64
import Derived.Ground.Names2Prog
import Derived.Test.YtambhopkacgddaaDoorRows
import Derived.Test.YtambhopkacgddaaDoorE02
import Derived.Laws.CopyOwn
import Derived.Deep.RegionLaw
import Derived.Deep.RegionHeld3
import Derived.Laws.EntriesVeiled
/- Walk: the function literal that tries the signs. -/
namespace Go.Proofs.YtambhopkacgddaaDoor
open Go.RowKit

theorem mt_lstN {n j : Nat} {M : Nat → Nat} (hM : ∀ x, x < n → M x < 1000000) : -9223372036854775808 ≤ mt (lstN n M) j ∧ mt (lstN n M) j ≤ 9223372036854775807 := by
  unfold mt
  by_cases h : j < n
  · rw [lstN_get h]; have := hM j h; omega
  · have : (lstN n M).getD j 0 = 0 := by simp [lstN, List.getD, h]
    rw [this]; omega
theorem jn_small {E : Nat → Nat} {L n : Nat} {M : Nat → Nat} (hE : ∀ x, E x < 4 * n) (hM : ∀ x, M x < 1000000) (hn : 4 * n ≤ 1000) (K x : Nat) : jnN E L K M x < 1000000 := by
  induction K generalizing x with
  | zero => exact hM x
  | succ K ih =>
    show upd (upd _ _ _) _ _ x < _
    unfold upd
    have h1 := hE K
    have h2 := hE ((K + 1) % L)
    split
    · omega
    · split
      · unfold trn; omega
      · exact ih x

set_option maxHeartbeats 3200000 in
set_option maxRecDepth 100000 in
theorem drawn_any (gc gn gd gf gS gM n cs cm cc : Nat) (C : Option Addr) (w0 : World) (code : List Int) (h64 : n ≤ 64) (hI : inL code) (hv : dvB code = true) (k : Nat) : ∀ (i : Nat) (S : Nat → Int) (M : Nat → Nat) (w : World) (b : Bool), i + k = n → (∀ x, M x < 1000000) →
    Scn gc gn gd gf gS gM n cs cm cc C w0 code w S M → (srch code k (lstI i S)).isSome = b →
    Calls Tryd.prog 35 #[.int .i64 i, .pointer (some ⟨gn, 0, none⟩), .pointer (some ⟨gd, 0, none⟩), .pointer (some ⟨gc, 0, none⟩), .pointer (some ⟨gf, 0, none⟩)] w
      (fun e w' => DrPost gc gn gd gf gS gM n cs cm cc C w0 code i S b (srch code k (lstI i S)) e w') := by
  have HI := Lib.hid hI
  have HV := Lib.hid hv
  clear hI hv
  induction k with
  | zero =>
    intro i S M w b hik hMs h hb
    obtain rfl : i = n := by omega
    have hcl := h.hC.1
    have CJ := Lib.hid (join_any (some ⟨gS, 0, none⟩) C i cs cc cm gM 0 code (lstI i S) M w (h.hC.keep h.hb) (ri_arr h.aS) h64 HI.out HV.out h.aM)
    have HMJ : Hid (∀ x, jnN (exN code (lstI i S) i) (2 * i) (2 * i) M x < 1000000) := Lib.hid (jn_small (n := i) (fun x => by have := exN_lt code (lstI i S) i x; have := (dvB_iff code).1 HV.out; omega) hMs (by omega) _)
    have HMK := Lib.hid (mkM_eq (lstI i S) HV.out hcl M)
    obtain ⟨c0, c1, c2, clt⟩ := h.cd
    have hcn := h.cn
    have hcc := h.cc
    have CV : ∀ W, Below w.heap.size w W ∨ True → w.grownBy W (some gM) → Arr W gM 3 (4 * i) (iv (jnN (exN code (lstI i S) i) (2 * i) (2 * i) M)) → Hid (Calls Tryd.prog 22 #[dval (some ⟨gS, 0, none⟩) i cs (some ⟨gM, 0, none⟩) (4 * i) cm 0] W fun e w' => e = .returned (.bool b) ∧ Below W.heap.size W w') := fun W _ hg hA =>
      DV.valid (signs := lstI i S) (mate := lstN (4 * i) (jnN (exN code (lstI i S) i) (2 * i) (2 * i) M)) ⟨ri_arr (h.aS.grown hg (by have := h.ne.1; simp; omega)), rn_arr hA, by omega, by omega, fun j _ => mt_lstN fun x _ => HMJ.out x⟩ cs cm 0 b (by
        rw [HMK.out, ← hb]
        show _ = Option.isSome (if _ then _ else _)
        cases q : validB (lstI i S) (mkM code (lstI i S)) 0 <;> simp)
    have HS := Lib.hid h
    have HR : Hid (∀ l, srch code 0 (lstI i S) = some l → lstI i S = l) := Lib.hid (fun l hl => by
      have hl' : (if validB (lstI i S) (mkM code (lstI i S)) 0 = true then some (lstI i S) else none) = some l := hl
      split at hl'
      · injection hl'
      · cases hl')
    clear h hMs hb hik hcl
    go_enter Tryd.func35, Tryd.ntmps35
    go_wp2_with (first
      | (go_at_call 36; ((with_reducible refine CJ.out.mono ?_); rintro e w1 ⟨rfl, hg1, hA1⟩; have hs1 := HS.out.joined hg1 hA1; obtain ⟨e0, e1, e2, elt⟩ := hs1.cd; have CVI := CV w1 (.inr trivial) hg1 hA1; have HS1 := Lib.hid hs1; clear hs1))
      | (go_at_call 22; ((with_reducible refine CVI.out.mono ?_); rintro e w2 ⟨rfl, hb2⟩)))
    go_ret
    exact ⟨S, _, rfl, HS1.out.keep hb2, HMJ.out, fun _ _ => rfl, fun l hl => by
      have e := HR.out l hl
      exact ⟨e, by rw [← e]; exact HMK.out⟩⟩
  | succ k ih =>
    intro i S M w b hik hMs h hb
    obtain ⟨p, hp⟩ : ∃ p, lstI i S = p := ⟨_, rfl⟩
    have hin : i < n := by omega
    have hcn := h.cn
    have hne : ((i : Int) == (n : Int)) = false := by simp; omega
    have HIH := Lib.hid ih
    have HB := Lib.hid hb
    rw [hp] at HB ⊢
    have HS0 : Hid (∃ S' M', Scn gc gn gd gf gS gM n cs cm cc C w0 code w S' M' ∧ (∀ x, M' x < 1000000) ∧ (∀ j, j < i → S' j = S j)) := Lib.hid ⟨S, M, h, hMs, fun _ _ => rfl⟩
    have HP := Lib.hid hp
    have hcf := enters_drawn
    clear ih hb hp hMs h
    -- one try
    have htry : ∀ (W : World) (v : Int) (S' : Nat → Int) (M' : Nat → Nat) (b' : Bool), Scn gc gn gd gf gS gM n cs cm cc C w0 code W S' M' → (∀ x, M' x < 1000000) → (∀ j, j < i → S' j = S j) → (srch code k (p ++ [v])).isSome = b' →
        Hid (Calls Tryd.prog 35 #[.int .i64 ((i : Int) + 1), .pointer (some ⟨gn, 0, none⟩), .pointer (some ⟨gd, 0, none⟩), .pointer (some ⟨gc, 0, none⟩), .pointer (some ⟨gf, 0, none⟩)] (W.setCell ⟨gS, i, none⟩ (.int .i64 v))
          (fun e w' => DrPost gc gn gd gf gS gM n cs cm cc C w0 code i S b' (srch code k (p ++ [v])) e w')) := fun W v S' M' b' hs hm hS hb' => by
      have hl : lstI (i + 1) (fun j => if j = i then v else S' j) = p ++ [v] := by
        rw [lstI_succ, ← HP.out]
        simp only [if_true]
        congr 1
        exact lstI_congr fun x hx => by rw [if_neg (by omega)]; exact hS x hx
      have hc := HIH.out (i + 1) (fun j => if j = i then v else S' j) M' (W.setCell ⟨gS, i, none⟩ (.int .i64 v)) b' (by omega) hm (hs.sign i v) (by rw [hl]; exact hb')
      rw [hl] at hc
      have e : ((i + 1 : Nat) : Int) = (i : Int) + 1 := by omega
      rw [e] at hc
      refine hc.mono ?_
      rintro e' w' ⟨S2, M2, h1, h2, h3, h4, h5⟩
      exact ⟨S2, M2, h1, h2, h3, fun j hj => by
        rw [h4 j (by omega)]
        show (if j = i then v else S' j) = S j
        rw [if_neg (by omega)]; exact hS j hj, h5⟩
    have HT := Lib.hid htry
    clear htry
    have hi0 : (0 : Int) ≤ (i : Int) := Int.natCast_nonneg _
    have hi1 : (i : Int) < (n : Int) := by omega
    have hn64 : (n : Int) ≤ 64 := by omega
    go_enter Tryd.func35, Tryd.ntmps35
    go_wp2
    go_loopw [7] (fun sg wr => ∃ t : Nat, t ≤ 2 ∧ sg = .int .i64 (1 - 2 * (t : Int)) ∧ (∃ S' M', Scn gc gn gd gf gS gM n cs cm cc C w0 code wr S' M' ∧ (∀ x, M' x < 1000000) ∧ (∀ j, j < i → S' j = S j)) ∧ (1 ≤ t → srch code k (p ++ [1]) = none) ∧ (2 ≤ t → srch code k (p ++ [-1]) = none)) (fun sg _ => (intOf sg + 3).toNat)
    case atStart => exact ⟨0, by omega, rfl, HS0.out, fun h => absurd h (by omega), fun h => absurd h (by omega)⟩
    case round =>
      obtain ⟨t, ht, rfl, ⟨S', M', hs, hm, hS⟩, ha, hb⟩ := hrel
      obtain ⟨c0, c1, c2, clt⟩ := hs.cd
      have ccf := hs.cf
      have fS := hs.aS.frozen i
      have cS := hs.aS.cell i hin
      have HSs := Lib.hid hs
      rcases (show t = 0 ∨ t = 1 ∨ t = 2 by omega) with rfl | rfl | rfl
      · have cf2 := (hs.sign i 1).cf
        cases q : srch code k (p ++ [1]) with
        | some l =>
          have HC := HT.out wr 1 S' M' true hs hm hS (by rw [q]; rfl)
          rw [q] at HC
          have HQ : Hid (srch code (k + 1) p = some l) := Lib.hid (by show (match srch code k (p ++ [1]) with | some l => some l | none => _) = _; rw [q])
          have HBT : Hid (b = true) := Lib.hid (by rw [← HB.out, HQ.out]; rfl)
          clear q ha hb hs hm hS
          go_wp2_with ((with_reducible refine HC.out.mono ?_); rintro e w2 ⟨S2, M2, rfl, h1, h2, h3, h4⟩)
          go_ret
          exact ⟨S2, M2, ret_bool HBT.out.symm, h1, h2, h3, by rw [HQ.out]; exact h4⟩
        | none =>
          have HC := HT.out wr 1 S' M' false hs hm hS (by rw [q]; rfl)
          rw [q] at HC
          have HQ := Lib.hid q
          clear q ha hb hs hm hS
          go_wp2_with ((with_reducible refine HC.out.mono ?_); rintro e w2 ⟨S2, M2, rfl, h1, h2, h3, h4⟩)
          go_roundw
          case rel => exact ⟨1, by omega, by rfl, ⟨S2, M2, h1, h2, h3⟩, fun _ => (by first | exact HQ.out | trivial), fun h => absurd h (by omega)⟩
          case measure => simp [intOf]
      · have cf2 := (hs.sign i (-1)).cf
        have HA := Lib.hid (ha (by omega))
        cases q : srch code k (p ++ [-1]) with
        | some l =>
          have HC := HT.out wr (-1) S' M' true hs hm hS (by rw [q]; rfl)
          rw [q] at HC
          have HQ : Hid (srch code (k + 1) p = some l) := Lib.hid (by show (match srch code k (p ++ [1]) with | some l => some l | none => _) = _; rw [HA.out]; exact q)
          have HBT : Hid (b = true) := Lib.hid (by rw [← HB.out, HQ.out]; rfl)
          clear q ha hb hs hm hS
          go_wp2_with ((with_reducible refine HC.out.mono ?_); rintro e w2 ⟨S2, M2, rfl, h1, h2, h3, h4⟩)
          go_ret
          exact ⟨S2, M2, ret_bool HBT.out.symm, h1, h2, h3, by rw [HQ.out]; exact h4⟩
        | none =>
          have HC := HT.out wr (-1) S' M' false hs hm hS (by rw [q]; rfl)
          rw [q] at HC
          have HQ := Lib.hid q
          clear q ha hb hs hm hS
          go_wp2_with ((with_reducible refine HC.out.mono ?_); rintro e w2 ⟨S2, M2, rfl, h1, h2, h3, h4⟩)
          go_roundw
          case rel => exact ⟨2, by omega, by rfl, ⟨S2, M2, h1, h2, h3⟩, fun _ => (by first | exact HA.out | trivial), fun _ => (by first | exact HQ.out | trivial)⟩
          case measure => simp [intOf]
      · have HA := Lib.hid (ha (by omega))
        have HA2 := Lib.hid (hb (by omega))
        have HQ : Hid (srch code (k + 1) p = none) := Lib.hid (by show (match srch code k (p ++ [1]) with | some l => some l | none => _) = _; rw [HA.out]; exact HA2.out)
        have HBT : Hid (b = false) := Lib.hid (by rw [← HB.out, HQ.out]; rfl)
        have HM := Lib.hid hm
        have HSS := Lib.hid hS
        clear ha hb hs hm hS
        go_wp2
        go_ret
        exact ⟨S', M', ret_bool HBT.out.symm, HSs.out, HM.out, HSS.out, by rw [HQ.out]; intro l h; cases h⟩

end Go.Proofs.YtambhopkacgddaaDoor

/- math/bits.Mul: the contract of the library's shelf, laid at this seat's numbers. -/
namespace Go.Proofs.YtambhopkacgddaaDoor
open Go.Shelf Go.RowKit

def ren212 : Go.Shelf.Ren := ⟨fun | 212 => 53 | 263 => 74 | 264 => 75 | n => n, fun | 46 => 82 | 51 => 79 | 146 => 118 | 53 => 93 | 148 => 120 | n => n, fun | n => n⟩
theorem lays212 : Go.Proofs.Lays.n212 Tryd.prog ren212 := {
  mixed := by kernel_rfl
  f212 := Tryd.func53.trans (congrArg some (by kernel_rfl))
  f263 := Tryd.func74.trans (congrArg some (by kernel_rfl))
  f264 := Tryd.func75.trans (congrArg some (by kernel_rfl))
  t46 := Tryd.underlying82
  a46 := Tryd.isAgg82
  z46 := Tryd.sizeOf82
  v46 := Tryd.zeroValue82
  t51 := Tryd.underlying79
  a51 := Tryd.isAgg79
  z51 := Tryd.sizeOf79
  v51 := Tryd.zeroValue79
  t53 := Tryd.underlying93
  a53 := Tryd.isAgg93
  z53 := Tryd.sizeOf93
  v53 := Tryd.zeroValue93
  t146 := Tryd.underlying118
  a146 := Tryd.isAgg118
  z146 := Tryd.sizeOf118
  v146 := Tryd.zeroValue118
  t148 := Tryd.underlying120
  a148 := Tryd.isAgg120
  z148 := Tryd.sizeOf120
  v148 := Tryd.zeroValue120 }
theorem mul_one (n : Nat) (hn : n < 18446744073709551616) (w : World) :
    Calls Tryd.prog 53 #[.int .u64 1, .int .u64 (n : Nat)] w fun e w' => e = .returned (.tuple #[.int .u64 0, .int .u64 (n : Nat)]) ∧ w = w' := by
  have h := Any.bits_Mul lays212 1 n (by omega) hn w
  have e1 : 1 * n / 18446744073709551616 = 0 := by omega
  have e2 : 1 * n % 18446744073709551616 = n := by omega
  rw [e1, e2] at h
  exact h.mono fun e w' ⟨h1, h2⟩ => ⟨h1, h2.symm⟩

end Go.Proofs.YtambhopkacgddaaDoor

/- Walk: slices.Repeat of one int. -/
namespace Go.Proofs.YtambhopkacgddaaDoor
open Go.RowKit

def fillV (z : Int) (k : Nat) : Nat → Value := fun i => .int .i64 (if i < k then z else 0)
theorem cellsN_list (n : Nat) (V : Nat → Value) : cellsN n V = ((List.range n).map V).toArray := rfl
theorem splice_fill (z : Int) (n k d : Nat) (h : k + d ≤ n) : splice ((List.range n).map (fillV z k)) k (List.replicate d (.int .i64 z)) = (List.range n).map (fillV z (k + d)) := by
  apply List.ext_getElem
  · rw [length_splice _ _ _ (by simp; omega)]; simp
  · intro i h1 h2
    have hi : i < n := by simpa using h2
    simp only [splice, List.getElem_map, List.getElem_range]
    by_cases e1 : i < k
    · rw [List.getElem_append_left (by simp; omega)]
      simp [fillV, e1, show i < k + d by omega]
    · rw [List.getElem_append_right (by simp; omega)]
      by_cases e2 : i < k + d
      · rw [List.getElem_append_left (by simp; omega)]
        simp [fillV, e2]
      · rw [List.getElem_append_right (by simp; omega)]
        simp only [List.getElem_drop, List.getElem_map, List.getElem_range, List.length_replicate, List.length_take, List.length_map, List.length_range]
        have e3 : k + d + (i - min k n - d) = i := by omega
        rw [e3]
        simp [fillV, e1, e2]

theorem copy_src {wr : World} {g n k d j : Nat} {z : Int} {v : Value} (hA : Arr wr g 3 n (fillV z k)) (hd : d ≤ k) (hk : k ≤ n) (hj : (List.replicate d (Value.int IntKind.i64 z))[j]? = some v) : wr.cell? ((⟨g, 0, none⟩ : Addr).add j) = some v := by
  have hjd : j < d := by
    rcases Nat.lt_or_ge j d with h | h
    · exact h
    · rw [List.getElem?_eq_none (by simpa using h)] at hj; cases hj
  have e : v = .int .i64 z := by
    have := List.mem_of_getElem? hj
    exact List.eq_of_mem_replicate this
  have h1 := hA.cell j (by omega)
  rw [e]
  have e2 : fillV z k j = .int .i64 z := by simp [fillV, show j < k by omega]
  rw [e2] at h1
  have ea : (⟨g, 0, none⟩ : Addr).add j = ⟨g, 0 + j, none⟩ := by unfold Addr.add; split <;> simp_all
  rw [ea]
  simpa using h1

set_option maxHeartbeats 1600000 in
set_option maxRecDepth 100000 in
theorem repeat_any (b n : Nat) (z : Int) (w : World) (hb : b < w.heap.size) (hc : w.cell? ⟨b, 0, none⟩ = some (.int .i64 z)) (hn : n ≤ 1000) :
    Calls Tryd.prog 34 #[.slice (some ⟨b, 0, none⟩) 1 1, .int .i64 (n : Nat)] w fun e w' => e = .returned (.slice (some ⟨w.heap.size, 0, none⟩) n n) ∧ Arr w' w.heap.size 3 n (zv fun _ => z) ∧ Below w.heap.size w w' := by
  have CM := fun W => Lib.hid (mul_one n (by omega) W)
  have hmk := fun W => make_one (P := Tryd.prog) Tryd.underlying22 Tryd.infoInt rfl n (by omega) (by omega) W
  have hwu : IntKind.u64.wrap (n : Int) = (n : Int) := by rw [IntKind.wrap_u64]; omega
  have hn0 : (0 : Int) ≤ (n : Int) := Int.natCast_nonneg _
  have hsz : (Tryd.prog.info? 3).map (·.size) = some 1 := by kernel_rfl
  have hb0 := below_alloc w (.cells (cellsN n fun _ => .int .i64 0) 3)
  have hg0 : (w.alloc (.cells (cellsN n fun _ => .int .i64 0) 3)).heap[w.heap.size]? = some (.cells ((List.range n).map (fillV z 0)).toArray 3 (0, 0)) := by
    rw [← cellsN_list]
    have : cellsN n (fillV z 0) = cellsN n fun _ => .int .i64 0 := cellsN_congr fun i _ => by simp [fillV]
    rw [this]
    exact heap_alloc_new w _
  by_cases hnz : n = 0
  · have hle : ¬ 0 < n := by omega
    have hmin : Nat.min 1 n = 0 := by rw [hnz]; rfl
    have HG0 := Lib.hid hg0
    have HNZ := Lib.hid hnz
    clear hg0 hnz
    go_enter Tryd.func34, Tryd.ntmps34
    go_wp2_with (first
      | (go_at_call 53; ((with_reducible refine (CM _).out.mono ?_); rintro e w1 ⟨rfl, rfl⟩))
      | (with_reducible refine wpList_copy_nothing rfl (.tmp 31) (.tmp 32) 22 22 rfl 3 Tryd.underlying22 hsz (some ⟨w.heap.size, 0, none⟩) (some ⟨b, 0, none⟩) n n 1 1 rfl rfl hmin ?_))
    go_loopw [8] (fun i wr => i = .int .i64 0 ∧ wr = w.alloc (.cells (cellsN n fun _ => .int .i64 0) 3)) (fun _ _ => 0)
    case atStart => exact ⟨rfl, rfl⟩
    case round =>
      obtain ⟨rfl, rfl⟩ := hrel
      go_wp2
      go_ret
      refine ⟨rfl, ?_, hb0⟩
      unfold Arr
      rw [HG0.out, ← cellsN_list]
      congr 2
      exact cellsN_congr fun i hi => absurd hi (by have := HNZ.out; omega)
  · have hlt : 0 < n := by omega
    have hmin : [Value.int IntKind.i64 z].length = Nat.min 1 n := by
      show 1 = min 1 n
      omega
    have HMIN := Lib.hid hmin
    have HG0 := Lib.hid hg0
    have hcb : (w.alloc (.cells (cellsN n fun _ => .int .i64 0) 3)).cell? ⟨b, 0, none⟩ = some (.int .i64 z) := by rw [World.cell?_alloc_past _ _ _ hb]; exact hc
    have HCB := Lib.hid hcb
    clear hg0 hcb hnz hc hmin
    go_enter Tryd.func34, Tryd.ntmps34
    go_wp2_with (first
      | (go_at_call 53; ((with_reducible refine (CM _).out.mono ?_); rintro e w1 ⟨rfl, rfl⟩))
      | (with_reducible refine wpList_copy_splice rfl (.tmp 31) (.tmp 32) 22 22 rfl 3 Tryd.underlying22 hsz (some ⟨w.heap.size, 0, none⟩) (some ⟨b, 0, none⟩) n n 1 1 rfl rfl w.heap.size 0 ((List.range n).map (fillV z 0)) 3 HG0.out [.int .i64 z] HMIN.out ?c1 ?c2 ?c3 w.heap.size w hb0 (Nat.le_refl _) ?_
         case c1 =>
           intro _
           refine ⟨rfl, _, rfl, fun j v hj => ?_⟩
           match j, hj with
           | 0, hj => (simp at hj; subst hj; exact HCB.out)
         case c2 => (simp; omega)
         case c3 => (intro v hv; simp at hv; subst hv; rfl)
         intro w2 hg2 hb2))
    have hg2' := hg2.out
    have hsp := splice_fill z n 0 1 (by omega)
    have e0 : List.replicate 1 (Value.int IntKind.i64 z) = [.int .i64 z] := rfl
    rw [e0] at hsp
    rw [hsp, ← cellsN_list] at hg2'
    have hA2 : Arr w2 w.heap.size 3 n (fillV z 1) := hg2'
    clear hg2 hg2' hsp e0 HG0 HCB hmk CM hb0 HMIN
    go_loopw [8] (fun i wr => ∃ k : Nat, 0 < k ∧ k ≤ n ∧ i = .int .i64 k ∧ Below w.heap.size w wr ∧ Arr wr w.heap.size 3 n (fillV z k)) (fun i _ => n - (intOf i).toNat)
    case atStart => exact ⟨1, by omega, by omega, rfl, hb2, hA2⟩
    case round =>
      obtain ⟨k, hk0, hk, rfl, hbr, hA⟩ := hrel
      have hki : (0 : Int) ≤ (k : Int) := Int.natCast_nonneg _
      by_cases hkl : k < n
      · have hg3 : wr.drew.heap[w.heap.size]? = some (.cells ((List.range n).map (fillV z k)).toArray 3 (0, 0)) := by rw [← cellsN_list]; exact hA
        have hA3 : Arr wr.drew w.heap.size 3 n (fillV z k) := hA
        obtain ⟨d, hd⟩ : ∃ d, Nat.min k (n - k) = d := ⟨_, rfl⟩
        have hd1 : d ≤ k ∧ k + d ≤ n ∧ 0 < d := by have : Nat.min k (n - k) = min k (n - k) := rfl; omega
        have hcs : (List.replicate d (Value.int IntKind.i64 z)).length = Nat.min k (n - k) := by rw [hd]; simp
        have hbD : Below w.heap.size w wr.drew := hbr.drew
        have hwr1 : IntKind.i64.wrap ((k : Int) + (d : Int)) = (k : Int) + (d : Int) := IntWalk.i64_in _ (by omega)
        have HCS := Lib.hid hcs
        have HD1 := Lib.hid hd1
        have HA3 := Lib.hid hA3
        have HSP := Lib.hid (splice_fill z n k d (by omega))
        have hk1 : (k : Int) < (n : Int) := by omega
        clear hd1 hA hA2 hA3 hd hcs
        go_wp2
        have hne : ¬ n = k := by omega
        obtain ⟨cs, hcs⟩ : ∃ cs, cs = List.replicate d (Value.int IntKind.i64 z) := ⟨_, rfl⟩
        have hcl : cs.length = d := by rw [hcs]; simp
        have HCE := Lib.hid hcs
        have HCN : Hid (cs.length = Nat.min k (n - k)) := by rw [hcs]; exact HCS.out
        clear hcs HCS
        go_region_law (refine step_copy_splice rfl (.tmp 41) (.tmp 44) 22 22 rfl 3 Tryd.underlying22 hsz (some ⟨w.heap.size, k, none⟩) (some ⟨w.heap.size, 0, none⟩) (n - k) (n - k) k n ?h1 ?h2 w.heap.size k ((List.range n).map (fillV z k)) 3 hg3 cs HCN.out ?c1 ?c2 ?c3 w.heap.size w hbD (Nat.le_refl _) ?c4
                       case h1 => go_simp
                       case h2 => go_simp
                       case c1 => exact fun _ => ⟨rfl, _, rfl, fun j v hj => copy_src HA3.out HD1.out.1 hk (by rw [← HCE.out]; exact hj)⟩
                       case c2 => (simp only [List.length_map, List.length_range, hcl]; exact HD1.out.2.1)
                       case c3 => exact fun v hv => by rw [HCE.out] at hv; rw [List.eq_of_mem_replicate hv]; rfl
                       intro w4 hg4 hb4)
        have hg4' := hg4.out
        rw [HCE.out, HSP.out, ← cellsN_list] at hg4'
        have hA4 : Arr w4 w.heap.size 3 n (fillV z (k + d)) := hg4'
        clear hg4 hg4' hg3
        simp only [List.getElem_toArray, List.getElem_cons_succ, List.getElem_cons_zero, Act.put, List.setIfInBounds_toArray, List.set_cons_succ, List.set_cons_zero]
        go_wp2
        go_roundw
        case rel => exact ⟨k + d, by omega, HD1.out.2.1, by go_num, hb4, hA4⟩
        case measure => have := HD1.out; simp [intOf]; omega
      · obtain rfl : n = k := by omega
        clear hkl hk hki hlt hA2
        have hfin : Arr wr w.heap.size 3 n (zv fun _ => z) := hA.congr fun i hi => by simp [fillV, hi]
        go_wp2
        go_ret
        exact ⟨rfl, hfin, hbr⟩

end Go.Proofs.YtambhopkacgddaaDoor

/- Walk: the first drawing of a code. -/
namespace Go.Proofs.YtambhopkacgddaaDoor
open Go.RowKit

theorem heap2_0 (w : World) (a b : Obj) : ((w.alloc a).alloc b).heap[w.heap.size]? = some a := (Below.heap_alloc (w.alloc a) b w.heap.size (by simp)).trans (heap_alloc_new w a)
theorem heap2_1 (w : World) (a b : Obj) : ((w.alloc a).alloc b).heap[w.heap.size + 1]? = some b := by
  have := heap_alloc_new (w.alloc a) b
  simpa using this
theorem heap3_0 (w : World) (a b c : Obj) : (((w.alloc a).alloc b).alloc c).heap[w.heap.size]? = some a := (Below.heap_alloc ((w.alloc a).alloc b) c w.heap.size (by simp <;> omega)).trans (heap2_0 w a b)
theorem heap3_1 (w : World) (a b c : Obj) : (((w.alloc a).alloc b).alloc c).heap[w.heap.size + 1]? = some b := (Below.heap_alloc ((w.alloc a).alloc b) c (w.heap.size + 1) (by simp)).trans (heap2_1 w a b)
theorem heap3_2 (w : World) (a b c : Obj) : (((w.alloc a).alloc b).alloc c).heap[w.heap.size + 2]? = some c := by
  have := heap_alloc_new ((w.alloc a).alloc b) c
  simpa using this
theorem pb1 (w : World) (a : Obj) : Below w.heap.size w (w.alloc a).drew := (below_alloc w a).drew
theorem pb2 (w : World) (a b : Obj) : Below w.heap.size w ((w.alloc a).alloc b).drew := (below_step (below_alloc w a) (below_alloc _ b)).drew
theorem pb3 (w : World) (a b c : Obj) : Below w.heap.size w (((w.alloc a).alloc b).alloc c).drew := (below_step (below_step (below_alloc w a) (below_alloc _ b)) (below_alloc _ c)).drew
abbrev set3w (W : World) (g : Nat) (a b c : Value) : World := ((W.setCell ⟨g, 0, none⟩ a).setCell ⟨g, 1, none⟩ b).setCell ⟨g, 2, none⟩ c
theorem set3w_far (W : World) (g : Nat) (a b c : Value) {h : Nat} (hne : g ≠ h) (i : Nat) : (set3w W g a b c).cell? ⟨h, i, none⟩ = W.cell? ⟨h, i, none⟩ := by
  unfold set3w
  rw [World.cell?_setCell_other _ _ _ _ (by simp), World.cell?_setCell_other _ _ _ _ (by simp), World.cell?_setCell_other _ _ _ _ (by simp)] <;> (simp; omega)
theorem set3w_cells (W : World) (g : Nat) (a b c : Value) {u0 u1 u2 : Value} (q0 : W.cell? ⟨g, 0, none⟩ = some u0) (q1 : W.cell? ⟨g, 1, none⟩ = some u1) (q2 : W.cell? ⟨g, 2, none⟩ = some u2) :
    (set3w W g a b c).cell? ⟨g, 0, none⟩ = some a ∧ (set3w W g a b c).cell? ⟨g, 1, none⟩ = some b ∧ (set3w W g a b c).cell? ⟨g, 2, none⟩ = some c := by
  unfold set3w
  refine ⟨?_, ?_, ?_⟩
  · rw [World.cell?_setCell_other _ _ _ _ (by simp), World.cell?_setCell_other _ _ _ _ (by simp), World.cell?_setCell_same _ _ _ q0]
  · have h1 : (W.setCell ⟨g, 0, none⟩ a).cell? ⟨g, 1, none⟩ = some u1 := by rw [World.cell?_setCell_other _ _ _ _ (by simp)]; exact q1
    rw [World.cell?_setCell_other _ _ _ _ (by simp), World.cell?_setCell_same _ _ _ h1]
  · have h2 : ((W.setCell ⟨g, 0, none⟩ a).setCell ⟨g, 1, none⟩ b).cell? ⟨g, 2, none⟩ = some u2 := by rw [World.cell?_setCell_other _ _ _ _ (by simp), World.cell?_setCell_other _ _ _ _ (by simp)]; exact q2
    rw [World.cell?_setCell_same _ _ _ h2]
theorem set3w_below {B : Nat} {a W : World} (h : Below B a W) {g : Nat} (hg : B ≤ g) (x y z : Value) : Below B a (set3w W g x y z) := below_set (below_set (below_set h hg _) hg _) hg _
/-- An empty box of a diagram. -/
def BxAt (w : World) (g : Nat) : Prop := DB w g none 0 0 none 0 0 0 ∧ ∀ i, w.frozen? ⟨g, i, none⟩ = false
theorem BxAt.kp {w w' : World} {g : Nat} (h : BxAt w g) (hb : Below w.heap.size w w') : BxAt w' g := ⟨h.1.keep hb, fun i => (hb.frozen (p := ⟨g, i, none⟩) h.1.2.2.2).trans (h.2 i)⟩
theorem BxAt.al {w : World} {g : Nat} (h : BxAt w g) (o : Obj) : BxAt (w.alloc o) g := h.kp (below_alloc w o)
theorem bx_pre {W w1 : World} {j : Nat} {t : TypeId} (hh : W.heap[j]? = some (.cells #[.slice none 0 0, .slice none 0 0, .int .i64 0] t (0, 0))) (hb : Below W.heap.size W w1) : BxAt w1 j := by
  have hl := (Array.getElem?_eq_some_iff.1 hh).1
  refine BxAt.kp (w := W) ⟨⟨?_, ?_, ?_, hl⟩, fun i => frozen_of_row W j i _ t hh⟩ hb <;> (simp [World.cell?, hh])
theorem arr_pre {W w1 : World} {j n : Nat} (hh : W.heap[j]? = some (.cells (cellsN n fun _ => .int .i64 0) 3 (0, 0))) (hb : Below W.heap.size W w1) : Arr w1 j 3 n (iv fun _ => 0) :=
  ((show Arr W j 3 n (fun _ => .int .i64 0) from hh).keep hb).congr fun _ _ => rfl
theorem rep_pre (W wA : World) (b n : Nat) (z : Int) (l : Nat) (t : TypeId) (hs : W.heap.size = wA.heap.size + l) (hbA : Below wA.heap.size wA W) (hh : W.heap[b]? = some (.cells #[.int .i64 z] t (0, 0))) (hn : n ≤ 1000) :
    Calls Tryd.prog 34 #[.slice (some ⟨b, 0, none⟩) 1 1, .int .i64 (n : Nat)] W fun e w1 => e = .returned (.slice (some ⟨wA.heap.size + l, 0, none⟩) n n) ∧ Arr w1 (wA.heap.size + l) 3 n (zv fun _ => z) ∧ Below wA.heap.size wA w1 ∧ wA.heap.size + l < w1.heap.size ∧ Below W.heap.size W w1 := by
  have hl := (Array.getElem?_eq_some_iff.1 hh).1
  refine (repeat_any b n z W hl (by simp [World.cell?, hh]) hn).mono ?_
  rintro e w1 ⟨rfl, hA, hb⟩
  rw [hs] at hA
  refine ⟨by rw [hs], hA, below_step hbA hb, hA.lt, hb⟩
/-- A cell that stays as it is. -/
def NAt (W : World) (h : Nat) (u : Value) : Prop := W.cell? ⟨h, 0, none⟩ = some u ∧ h < W.heap.size
theorem nat_pre {W : World} {j : Nat} {u : Value} {t : TypeId} (hh : W.heap[j]? = some (.cells #[u] t (0, 0))) : NAt W j u := ⟨by simp [World.cell?, hh], (Array.getElem?_eq_some_iff.1 hh).1⟩
theorem NAt.keep {W W' : World} {h : Nat} {u : Value} (hS : NAt W h u) (hb : Below W.heap.size W W') : NAt W' h u := ⟨(hb.cell (p := ⟨h, 0, none⟩) hS.2).trans hS.1, Nat.lt_of_lt_of_le hS.2 hb.size⟩
theorem NAt.al {W : World} {h : Nat} {u : Value} (hS : NAt W h u) (o : Obj) : NAt (W.alloc o) h u := hS.keep (below_alloc W o)
theorem NAt.set {W : World} {h g : Nat} {u : Value} (hS : NAt W h u) (hne : g ≠ h) (x y z : Value) : NAt (set3w W g x y z) h u := ⟨(set3w_far W g x y z hne 0).trans hS.1, by simp [World.setCell]; exact hS.2⟩
theorem NAt.st {W : World} {h : Nat} {u : Value} (hS : NAt W h u) : W.cell? ⟨h, 0, none⟩ = some u := hS.1
theorem arr0 (w : World) (n : Nat) : Arr (w.alloc (.cells (cellsN n fun _ => .int .i64 0) 3)) w.heap.size 3 n (iv fun _ => 0) := (Arr.new w n 3 (fun _ => .int .i64 0)).congr fun _ _ => rfl
theorem dbNew (w : World) (A : Option Addr) (ns cs : Nat) (B : Option Addr) (nm cm : Nat) (lp : Int) (t : TypeId) : DB (w.alloc (.cells #[.slice A ns cs, .slice B nm cm, .int .i64 lp] t)) w.heap.size A ns cs B nm cm lp := by
  refine ⟨?_, ?_, ?_, by simp⟩ <;> (rw [World.cell?_alloc_at _ _ _ _ rfl]; rfl)
/-- What the box of the diagram holds when it has been made. -/
def FDMade (wA : World) (n : Nat) (v : Value) (wX : World) : Prop :=
  ∃ gd gS gM, v = .pointer (some ⟨gd, 0, none⟩) ∧ DB wX gd (some ⟨gS, 0, none⟩) n n (some ⟨gM, 0, none⟩) (4 * n) (4 * n) 0 ∧ Arr wX gS 3 n (zv fun _ => 1) ∧ Arr wX gM 3 (4 * n) (iv fun _ => 0) ∧
    wA.heap.size ≤ gd ∧ wA.heap.size ≤ gS ∧ wA.heap.size ≤ gM ∧ gS ≠ gM ∧ gd ≠ gS ∧ gd ≠ gM ∧ Below wA.heap.size wA wX
theorem fd_new {wA w1 : World} {n gS gM : Nat} (t : TypeId) (hS : Arr w1 gS 3 n (zv fun _ => 1)) (hm : Arr w1 gM 3 (4 * n) (iv fun _ => 0)) (h1 : wA.heap.size ≤ gS) (h2 : wA.heap.size ≤ gM) (h3 : gS ≠ gM) (hb : Below wA.heap.size wA w1) :
    FDMade wA n (.pointer (some ⟨w1.heap.size, 0, none⟩)) (w1.alloc (.cells #[.slice (some ⟨gS, 0, none⟩) n n, .slice (some ⟨gM, 0, none⟩) (4 * n) (4 * n), .int .i64 0] t)) :=
  ⟨w1.heap.size, gS, gM, rfl, dbNew w1 _ _ _ _ _ _ _ t, hS.alloc _, hm.alloc _, hb.size, h1, h2, h3, by have := hS.lt; omega, by have := hm.lt; omega, below_step hb (below_alloc _ _)⟩
theorem fd_aft {wA w1 : World} {n gS : Nat} (t : TypeId) (hS : Arr w1 gS 3 n (zv fun _ => 1)) (h1 : wA.heap.size ≤ gS) (hb : Below wA.heap.size wA w1) :
    FDMade wA n (.pointer (some ⟨w1.heap.size + 1, 0, none⟩)) ((w1.alloc (.cells (cellsN (4 * n) fun _ => .int .i64 0) 3)).alloc (.cells #[.slice (some ⟨gS, 0, none⟩) n n, .slice (some ⟨w1.heap.size, 0, none⟩) (4 * n) (4 * n), .int .i64 0] t)) := by
  have h := fd_new t (hS.alloc (.cells (cellsN (4 * n) fun _ => .int .i64 0) 3)) (arr0 w1 (4 * n)) h1 hb.size (by have := hS.lt; omega) (below_step hb (below_alloc _ _))
  rw [show (w1.alloc (.cells (cellsN (4 * n) fun _ => .int .i64 0) 3)).heap.size = w1.heap.size + 1 by simp] at h
  exact h
theorem fd_mid {wA w1 : World} {n gS : Nat} (t : TypeId) (hS : Arr w1 gS 3 n (zv fun _ => 1)) (h1 : wA.heap.size ≤ gS) (hb : Below wA.heap.size wA w1) :
    FDMade wA n (.pointer (some ⟨w1.heap.size, 0, none⟩)) ((w1.alloc (.cells #[.slice (some ⟨gS, 0, none⟩) n n, .slice (some ⟨w1.heap.size + 1, 0, none⟩) (4 * n) (4 * n), .int .i64 0] t)).alloc (.cells (cellsN (4 * n) fun _ => .int .i64 0) 3)) := by
  have h2 := arr0 (w1.alloc (.cells #[.slice (some ⟨gS, 0, none⟩) n n, .slice (some ⟨w1.heap.size + 1, 0, none⟩) (4 * n) (4 * n), .int .i64 0] t)) (4 * n)
  rw [show (w1.alloc (.cells #[.slice (some ⟨gS, 0, none⟩) n n, .slice (some ⟨w1.heap.size + 1, 0, none⟩) (4 * n) (4 * n), .int .i64 0] t)).heap.size = w1.heap.size + 1 by simp] at h2
  have hs := hb.size
  have hl := hS.lt
  exact ⟨w1.heap.size, gS, w1.heap.size + 1, rfl, (dbNew w1 _ _ _ _ _ _ _ t).keep (below_alloc _ _), (hS.alloc _).alloc _, h2, hs, h1, by omega, by omega, by omega, by omega, below_step (below_step hb (below_alloc _ _)) (below_alloc _ _)⟩
theorem fd_set {wA w1 : World} {n gS gM gD : Nat} (hbx : BxAt w1 gD) (hS : Arr w1 gS 3 n (zv fun _ => 1)) (hm : Arr w1 gM 3 (4 * n) (iv fun _ => 0)) (h0 : wA.heap.size ≤ gD) (h1 : wA.heap.size ≤ gS) (h2 : wA.heap.size ≤ gM) (h3 : gS ≠ gM) (h4 : gD ≠ gS) (h5 : gD ≠ gM) (hb : Below wA.heap.size wA w1) :
    FDMade wA n (.pointer (some ⟨gD, 0, none⟩)) (set3w w1 gD (.slice (some ⟨gS, 0, none⟩) n n) (.slice (some ⟨gM, 0, none⟩) (4 * n) (4 * n)) (.int .i64 0)) := by
  obtain ⟨k0, k1, k2⟩ := set3w_cells w1 gD (.slice (some ⟨gS, 0, none⟩) n n) (.slice (some ⟨gM, 0, none⟩) (4 * n) (4 * n)) (.int .i64 0) hbx.1.1 hbx.1.2.1 hbx.1.2.2.1
  have hlt := hbx.1.2.2.2
  have e1 : gS ≠ gD := fun e => h4 e.symm
  have e2 : gM ≠ gD := fun e => h5 e.symm
  exact ⟨gD, gS, gM, rfl, ⟨k0, k1, k2, by simp [World.setCell]; exact hlt⟩, ((hS.far (p := ⟨gD, 0, none⟩) e1 _).far (p := ⟨gD, 1, none⟩) e1 _).far (p := ⟨gD, 2, none⟩) e1 _,
    ((hm.far (p := ⟨gD, 0, none⟩) e2 _).far (p := ⟨gD, 1, none⟩) e2 _).far (p := ⟨gD, 2, none⟩) e2 _, h0, h1, h2, h3, h4, h5, set3w_below hb h0 _ _ _⟩
theorem fd_setm {wA w1 : World} {n gS gD : Nat} (hbx : BxAt w1 gD) (hS : Arr w1 gS 3 n (zv fun _ => 1)) (h0 : wA.heap.size ≤ gD) (h1 : wA.heap.size ≤ gS) (h4 : gD ≠ gS) (hb : Below wA.heap.size wA w1) :
    FDMade wA n (.pointer (some ⟨gD, 0, none⟩)) (set3w (w1.alloc (.cells (cellsN (4 * n) fun _ => .int .i64 0) 3)) gD (.slice (some ⟨gS, 0, none⟩) n n) (.slice (some ⟨w1.heap.size, 0, none⟩) (4 * n) (4 * n)) (.int .i64 0)) :=
  fd_set (hbx.al _) (hS.alloc _) (arr0 w1 (4 * n)) h0 h1 hb.size (by have := hS.lt; omega) h4 (by have := hbx.1.2.2.2; omega) (below_step hb (below_alloc _ _))

def FirstPost (code : List Int) (n : Nat) (w : World) (r : Option (List Int)) (e : Ending) (w' : World) : Prop :=
  Below w.heap.size w w' ∧ match r with
    | some l => ∃ gS gM, e = .returned (.tuple #[dval (some ⟨gS, 0, none⟩) n n (some ⟨gM, 0, none⟩) (4 * n) (4 * n) 0, .bool true]) ∧ RI w' (some ⟨gS, 0, none⟩) n l ∧ RI w' (some ⟨gM, 0, none⟩) (4 * n) (mkM code l) ∧ w.heap.size ≤ gS ∧ w.heap.size ≤ gM
    | none => e = .returned (.tuple #[dval none 0 0 none 0 0 0, .bool false])

set_option maxHeartbeats 6400000 in
set_option maxRecDepth 100000 in
theorem first_any (C : Option Addr) (n cc : Nat) (code : List Int) (w : World) (hC : RI w C n code) (h64 : n ≤ 64) (hI : inL code) (hv : dvB code = true) :
    Calls Tryd.prog 21 #[.slice C n cc] w (FirstPost code n w (srch code (n - 1) [1])) := by
  have hpos : 0 < n := by have := (dvB_iff code).1 hv; have := hC.1; omega
  have hn1000 : n ≤ 1000 := by omega
  have hni0 : (0 : Int) ≤ (n : Int) := Int.natCast_nonneg _
  have hni1 : (n : Int) ≤ 64 := by omega
  have hmk : ∀ W, (Instr.makeSlice 22 (.int .i64 (4 * (n : Int))) (.int .i64 (4 * (n : Int)))).run Tryd.prog W = .ok (.slice (some ⟨W.heap.size, 0, none⟩) (4 * n) (4 * n)) (W.alloc (.cells (cellsN (4 * n) fun _ => .int .i64 0) 3)) := fun W => by
    have := make_one (P := Tryd.prog) Tryd.underlying22 Tryd.infoInt rfl (4 * n) (by omega) (by omega) W
    rw [show ((4 * n : Nat) : Int) = 4 * (n : Int) by omega] at this
    exact this
  have HI := Lib.hid hI
  have HV := Lib.hid hv
  have HC := Lib.hid hC
  clear hI hv hC
  go_enter Tryd.func21, Tryd.ntmps21
  go_upto_region 2 with fail
  have hb0 : Below w.heap.size w (((w.alloc (.cells #[.slice C n cc] 22)).alloc (.cells #[.slice none 0 0, .slice none 0 0, .int .i64 0] 35)).alloc (.cells #[.int .i64 n] 3)) := below_step (below_step (below_alloc w _) (below_alloc _ _)) (below_alloc _ _)
  have hgc : NAt (((w.alloc (.cells #[.slice C n cc] 22)).alloc (.cells #[.slice none 0 0, .slice none 0 0, .int .i64 0] 35)).alloc (.cells #[.int .i64 n] 3)) w.heap.size (.slice C n cc) := nat_pre (heap3_0 w _ _ _)
  have hgn : NAt (((w.alloc (.cells #[.slice C n cc] 22)).alloc (.cells #[.slice none 0 0, .slice none 0 0, .int .i64 0] 35)).alloc (.cells #[.int .i64 n] 3)) (w.heap.size + 2) (.int .i64 n) := nat_pre (heap3_2 w _ _ _)
  have hgr : BxAt (((w.alloc (.cells #[.slice C n cc] 22)).alloc (.cells #[.slice none 0 0, .slice none 0 0, .int .i64 0] 35)).alloc (.cells #[.int .i64 n] 3)) (w.heap.size + 1) :=
    bx_pre (heap3_1 w (.cells #[.slice C n cc] 22) (.cells #[.slice none 0 0, .slice none 0 0, .int .i64 0] 35) (.cells #[.int .i64 n] 3)) (Below.refl _ _)
  have hszA : (((w.alloc (.cells #[.slice C n cc] 22)).alloc (.cells #[.slice none 0 0, .slice none 0 0, .int .i64 0] 35)).alloc (.cells #[.int .i64 n] 3)).heap.size = w.heap.size + 3 := by simp
  have HCA := Lib.hid (HC.out.keep hb0)
  generalize ((w.alloc (.cells #[.slice C n cc] 22)).alloc (.cells #[.slice none 0 0, .slice none 0 0, .int .i64 0] 35)).alloc (.cells #[.int .i64 n] 3) = wA at *
  obtain ⟨gn, hgne⟩ : ∃ gn, w.heap.size + 2 = gn := ⟨_, rfl⟩
  rw [show w.heap.size + 1 + 1 = w.heap.size + 2 by omega]
  rw [hgne] at hgn ⊢
  obtain ⟨gr, hgre⟩ : ∃ gr, w.heap.size + 1 = gr := ⟨_, rfl⟩
  rw [hgre] at hgr ⊢
  obtain ⟨gc, hgce⟩ : ∃ gc, w.heap.size = gc := ⟨_, rfl⟩
  have HBw : Hid (∀ W, Below wA.heap.size wA W → Below w.heap.size w W) := Lib.hid (fun W h => hb0.trans (h.mono hb0.size))
  rw [hgce] at hgc ⊢
  have HGR := Lib.hid hgr
  have HGC := Lib.hid hgc
  have HNA := Lib.hid hgn
  have HX : Hid (gc < gr ∧ gr < gn ∧ gn < wA.heap.size ∧ w.heap.size = gc) := Lib.hid ⟨by omega, by omega, by omega, hgce⟩
  have HH := Lib.hid hgce
  have hn0 : wA.heap.size ≠ gn := by omega
  have hn1 : wA.heap.size + 1 ≠ gn := by omega
  have hn2 : wA.heap.size + 2 ≠ gn := by omega
  have hw4 : IntKind.i64.wrap (4 * (n : Int)) = 4 * (n : Int) := IntWalk.i64_in _ (by omega)
  have K0 := hgn.1
  have K1 : Hid (∀ o1, (wA.alloc o1).drew.cell? ⟨gn, 0, none⟩ = some (.int .i64 n)) := Lib.hid (fun o1 => (HNA.out.keep (pb1 wA o1)).1)
  have K2 : Hid (∀ o1 o2, ((wA.alloc o1).alloc o2).drew.cell? ⟨gn, 0, none⟩ = some (.int .i64 n)) := Lib.hid (fun o1 o2 => (HNA.out.keep (pb2 wA o1 o2)).1)
  have K3 : Hid (∀ o1 o2 o3, (((wA.alloc o1).alloc o2).alloc o3).drew.cell? ⟨gn, 0, none⟩ = some (.int .i64 n)) := Lib.hid (fun o1 o2 o3 => (HNA.out.keep (pb3 wA o1 o2 o3)).1)
  clear hgc hgn hgr hgne hgre hgce hszA hb0
  have CRB := Lib.hid (rep_pre (wA.alloc (.cells #[.int .i64 1] 3)).drew wA (wA.heap.size) n 1 1 3 (by (simp <;> omega)) (pb1 wA _) (by exact heap_alloc_new wA _) hn1000)
  have CRBM := Lib.hid (rep_pre ((wA.alloc (.cells #[.int .i64 1] 3)).alloc (.cells (cellsN (4 * n) fun _ => .int .i64 0) 3)).drew wA (wA.heap.size) n 1 2 3 (by (simp <;> omega)) (pb2 wA _ _) (by exact heap2_0 wA _ _) hn1000)
  have CRMB := Lib.hid (rep_pre ((wA.alloc (.cells (cellsN (4 * n) fun _ => .int .i64 0) 3)).alloc (.cells #[.int .i64 1] 3)).drew wA (wA.heap.size + 1) n 1 2 3 (by (simp <;> omega)) (pb2 wA _ _) (by exact heap2_1 wA _ _) hn1000)
  have CRBD := Lib.hid (rep_pre ((wA.alloc (.cells #[.int .i64 1] 3)).alloc (.cells #[.slice none 0 0, .slice none 0 0, .int .i64 0] 35)).drew wA (wA.heap.size) n 1 2 3 (by (simp <;> omega)) (pb2 wA _ _) (by exact heap2_0 wA _ _) hn1000)
  have CRDB := Lib.hid (rep_pre ((wA.alloc (.cells #[.slice none 0 0, .slice none 0 0, .int .i64 0] 35)).alloc (.cells #[.int .i64 1] 3)).drew wA (wA.heap.size + 1) n 1 2 3 (by (simp <;> omega)) (pb2 wA _ _) (by exact heap2_1 wA _ _) hn1000)
  have CRBMD := Lib.hid (rep_pre (((wA.alloc (.cells #[.int .i64 1] 3)).alloc (.cells (cellsN (4 * n) fun _ => .int .i64 0) 3)).alloc (.cells #[.slice none 0 0, .slice none 0 0, .int .i64 0] 35)).drew wA (wA.heap.size) n 1 3 3 (by (simp <;> omega)) (pb3 wA _ _ _) (by exact heap3_0 wA _ _ _) hn1000)
  have CRBDM := Lib.hid (rep_pre (((wA.alloc (.cells #[.int .i64 1] 3)).alloc (.cells #[.slice none 0 0, .slice none 0 0, .int .i64 0] 35)).alloc (.cells (cellsN (4 * n) fun _ => .int .i64 0) 3)).drew wA (wA.heap.size) n 1 3 3 (by (simp <;> omega)) (pb3 wA _ _ _) (by exact heap3_0 wA _ _ _) hn1000)
  have CRMBD := Lib.hid (rep_pre (((wA.alloc (.cells (cellsN (4 * n) fun _ => .int .i64 0) 3)).alloc (.cells #[.int .i64 1] 3)).alloc (.cells #[.slice none 0 0, .slice none 0 0, .int .i64 0] 35)).drew wA (wA.heap.size + 1) n 1 3 3 (by (simp <;> omega)) (pb3 wA _ _ _) (by exact heap3_1 wA _ _ _) hn1000)
  have CRMDB := Lib.hid (rep_pre (((wA.alloc (.cells (cellsN (4 * n) fun _ => .int .i64 0) 3)).alloc (.cells #[.slice none 0 0, .slice none 0 0, .int .i64 0] 35)).alloc (.cells #[.int .i64 1] 3)).drew wA (wA.heap.size + 2) n 1 3 3 (by (simp <;> omega)) (pb3 wA _ _ _) (by exact heap3_2 wA _ _ _) hn1000)
  have CRDBM := Lib.hid (rep_pre (((wA.alloc (.cells #[.slice none 0 0, .slice none 0 0, .int .i64 0] 35)).alloc (.cells #[.int .i64 1] 3)).alloc (.cells (cellsN (4 * n) fun _ => .int .i64 0) 3)).drew wA (wA.heap.size + 1) n 1 3 3 (by (simp <;> omega)) (pb3 wA _ _ _) (by exact heap3_1 wA _ _ _) hn1000)
  have CRDMB := Lib.hid (rep_pre (((wA.alloc (.cells #[.slice none 0 0, .slice none 0 0, .int .i64 0] 35)).alloc (.cells (cellsN (4 * n) fun _ => .int .i64 0) 3)).alloc (.cells #[.int .i64 1] 3)).drew wA (wA.heap.size + 2) n 1 3 3 (by (simp <;> omega)) (pb3 wA _ _ _) (by exact heap3_2 wA _ _ _) hn1000)
  go_cut [5] (fun v wX => FDMade wA n v wX)
  case first =>
    go_region_held3 (fun w' => w'.cell? ⟨gn, 0, none⟩ = some (.int .i64 n))
      (first
        | with_reducible exact K3.out _ _ _
        | with_reducible exact K2.out _ _
        | with_reducible exact K1.out _
        | with_reducible exact hS1.st
        | with_reducible exact (NAt.al hS1 _).st
        | with_reducible exact (NAt.al (NAt.al hS1 _) _).st
        | with_reducible exact (NAt.set hS1 (by assumption) _ _ _).st
        | with_reducible exact (NAt.set (NAt.al hS1 _) (by assumption) _ _ _).st
        | with_reducible exact (NAt.set (NAt.al (NAt.al hS1 _) _) (by assumption) _ _ _).st
        | go_keep)
      (first
        | (go_at_call 34; ((with_reducible refine CRB.out.mono ?_); rintro e w1 ⟨rfl, hA1, hbB, hlt1, hbW⟩; have hS1 : NAt w1 gn (.int .i64 n) := HNA.out.keep hbB))
        | (go_at_call 34; ((with_reducible refine CRBM.out.mono ?_); rintro e w1 ⟨rfl, hA1, hbB, hlt1, hbW⟩; have hS1 : NAt w1 gn (.int .i64 n) := HNA.out.keep hbB; have hm1 : Arr w1 (wA.heap.size + 1) 3 (4 * n) (iv fun _ => 0) := arr_pre (W := ((wA.alloc (.cells #[.int .i64 1] 3)).alloc (.cells (cellsN (4 * n) fun _ => .int .i64 0) 3)).drew) (heap2_1 wA _ _) hbW))
        | (go_at_call 34; ((with_reducible refine CRMB.out.mono ?_); rintro e w1 ⟨rfl, hA1, hbB, hlt1, hbW⟩; have hS1 : NAt w1 gn (.int .i64 n) := HNA.out.keep hbB; have hm1 : Arr w1 (wA.heap.size) 3 (4 * n) (iv fun _ => 0) := arr_pre (W := ((wA.alloc (.cells (cellsN (4 * n) fun _ => .int .i64 0) 3)).alloc (.cells #[.int .i64 1] 3)).drew) (heap2_0 wA _ _) hbW))
        | (go_at_call 34; ((with_reducible refine CRBD.out.mono ?_); rintro e w1 ⟨rfl, hA1, hbB, hlt1, hbW⟩; have hS1 : NAt w1 gn (.int .i64 n) := HNA.out.keep hbB; have hbx : BxAt w1 (wA.heap.size + 1) := bx_pre (W := ((wA.alloc (.cells #[.int .i64 1] 3)).alloc (.cells #[.slice none 0 0, .slice none 0 0, .int .i64 0] 35)).drew) (heap2_1 wA _ _) hbW; have q0 := hbx.1.1; have q1 := hbx.1.2.1; have q2 := hbx.1.2.2.1; have f0 := hbx.2 0; have f1 := hbx.2 1; have f2 := hbx.2 2; have hby := hbx.al (.cells (cellsN (4 * n) fun _ => .int .i64 0) 3); have p0 := hby.1.1; have p1 := hby.1.2.1; have p2 := hby.1.2.2.1; have e0 := hby.2 0; have e1 := hby.2 1; have e2 := hby.2 2))
        | (go_at_call 34; ((with_reducible refine CRDB.out.mono ?_); rintro e w1 ⟨rfl, hA1, hbB, hlt1, hbW⟩; have hS1 : NAt w1 gn (.int .i64 n) := HNA.out.keep hbB; have hbx : BxAt w1 (wA.heap.size) := bx_pre (W := ((wA.alloc (.cells #[.slice none 0 0, .slice none 0 0, .int .i64 0] 35)).alloc (.cells #[.int .i64 1] 3)).drew) (heap2_0 wA _ _) hbW; have q0 := hbx.1.1; have q1 := hbx.1.2.1; have q2 := hbx.1.2.2.1; have f0 := hbx.2 0; have f1 := hbx.2 1; have f2 := hbx.2 2; have hby := hbx.al (.cells (cellsN (4 * n) fun _ => .int .i64 0) 3); have p0 := hby.1.1; have p1 := hby.1.2.1; have p2 := hby.1.2.2.1; have e0 := hby.2 0; have e1 := hby.2 1; have e2 := hby.2 2))
        | (go_at_call 34; ((with_reducible refine CRBMD.out.mono ?_); rintro e w1 ⟨rfl, hA1, hbB, hlt1, hbW⟩; have hS1 : NAt w1 gn (.int .i64 n) := HNA.out.keep hbB; have hm1 : Arr w1 (wA.heap.size + 1) 3 (4 * n) (iv fun _ => 0) := arr_pre (W := (((wA.alloc (.cells #[.int .i64 1] 3)).alloc (.cells (cellsN (4 * n) fun _ => .int .i64 0) 3)).alloc (.cells #[.slice none 0 0, .slice none 0 0, .int .i64 0] 35)).drew) (heap3_1 wA _ _ _) hbW; have hbx : BxAt w1 (wA.heap.size + 2) := bx_pre (W := (((wA.alloc (.cells #[.int .i64 1] 3)).alloc (.cells (cellsN (4 * n) fun _ => .int .i64 0) 3)).alloc (.cells #[.slice none 0 0, .slice none 0 0, .int .i64 0] 35)).drew) (heap3_2 wA _ _ _) hbW; have q0 := hbx.1.1; have q1 := hbx.1.2.1; have q2 := hbx.1.2.2.1; have f0 := hbx.2 0; have f1 := hbx.2 1; have f2 := hbx.2 2))
        | (go_at_call 34; ((with_reducible refine CRBDM.out.mono ?_); rintro e w1 ⟨rfl, hA1, hbB, hlt1, hbW⟩; have hS1 : NAt w1 gn (.int .i64 n) := HNA.out.keep hbB; have hm1 : Arr w1 (wA.heap.size + 2) 3 (4 * n) (iv fun _ => 0) := arr_pre (W := (((wA.alloc (.cells #[.int .i64 1] 3)).alloc (.cells #[.slice none 0 0, .slice none 0 0, .int .i64 0] 35)).alloc (.cells (cellsN (4 * n) fun _ => .int .i64 0) 3)).drew) (heap3_2 wA _ _ _) hbW; have hbx : BxAt w1 (wA.heap.size + 1) := bx_pre (W := (((wA.alloc (.cells #[.int .i64 1] 3)).alloc (.cells #[.slice none 0 0, .slice none 0 0, .int .i64 0] 35)).alloc (.cells (cellsN (4 * n) fun _ => .int .i64 0) 3)).drew) (heap3_1 wA _ _ _) hbW; have q0 := hbx.1.1; have q1 := hbx.1.2.1; have q2 := hbx.1.2.2.1; have f0 := hbx.2 0; have f1 := hbx.2 1; have f2 := hbx.2 2))
        | (go_at_call 34; ((with_reducible refine CRMBD.out.mono ?_); rintro e w1 ⟨rfl, hA1, hbB, hlt1, hbW⟩; have hS1 : NAt w1 gn (.int .i64 n) := HNA.out.keep hbB; have hm1 : Arr w1 (wA.heap.size) 3 (4 * n) (iv fun _ => 0) := arr_pre (W := (((wA.alloc (.cells (cellsN (4 * n) fun _ => .int .i64 0) 3)).alloc (.cells #[.int .i64 1] 3)).alloc (.cells #[.slice none 0 0, .slice none 0 0, .int .i64 0] 35)).drew) (heap3_0 wA _ _ _) hbW; have hbx : BxAt w1 (wA.heap.size + 2) := bx_pre (W := (((wA.alloc (.cells (cellsN (4 * n) fun _ => .int .i64 0) 3)).alloc (.cells #[.int .i64 1] 3)).alloc (.cells #[.slice none 0 0, .slice none 0 0, .int .i64 0] 35)).drew) (heap3_2 wA _ _ _) hbW; have q0 := hbx.1.1; have q1 := hbx.1.2.1; have q2 := hbx.1.2.2.1; have f0 := hbx.2 0; have f1 := hbx.2 1; have f2 := hbx.2 2))
        | (go_at_call 34; ((with_reducible refine CRMDB.out.mono ?_); rintro e w1 ⟨rfl, hA1, hbB, hlt1, hbW⟩; have hS1 : NAt w1 gn (.int .i64 n) := HNA.out.keep hbB; have hm1 : Arr w1 (wA.heap.size) 3 (4 * n) (iv fun _ => 0) := arr_pre (W := (((wA.alloc (.cells (cellsN (4 * n) fun _ => .int .i64 0) 3)).alloc (.cells #[.slice none 0 0, .slice none 0 0, .int .i64 0] 35)).alloc (.cells #[.int .i64 1] 3)).drew) (heap3_0 wA _ _ _) hbW; have hbx : BxAt w1 (wA.heap.size + 1) := bx_pre (W := (((wA.alloc (.cells (cellsN (4 * n) fun _ => .int .i64 0) 3)).alloc (.cells #[.slice none 0 0, .slice none 0 0, .int .i64 0] 35)).alloc (.cells #[.int .i64 1] 3)).drew) (heap3_1 wA _ _ _) hbW; have q0 := hbx.1.1; have q1 := hbx.1.2.1; have q2 := hbx.1.2.2.1; have f0 := hbx.2 0; have f1 := hbx.2 1; have f2 := hbx.2 2))
        | (go_at_call 34; ((with_reducible refine CRDBM.out.mono ?_); rintro e w1 ⟨rfl, hA1, hbB, hlt1, hbW⟩; have hS1 : NAt w1 gn (.int .i64 n) := HNA.out.keep hbB; have hm1 : Arr w1 (wA.heap.size + 2) 3 (4 * n) (iv fun _ => 0) := arr_pre (W := (((wA.alloc (.cells #[.slice none 0 0, .slice none 0 0, .int .i64 0] 35)).alloc (.cells #[.int .i64 1] 3)).alloc (.cells (cellsN (4 * n) fun _ => .int .i64 0) 3)).drew) (heap3_2 wA _ _ _) hbW; have hbx : BxAt w1 (wA.heap.size) := bx_pre (W := (((wA.alloc (.cells #[.slice none 0 0, .slice none 0 0, .int .i64 0] 35)).alloc (.cells #[.int .i64 1] 3)).alloc (.cells (cellsN (4 * n) fun _ => .int .i64 0) 3)).drew) (heap3_0 wA _ _ _) hbW; have q0 := hbx.1.1; have q1 := hbx.1.2.1; have q2 := hbx.1.2.2.1; have f0 := hbx.2 0; have f1 := hbx.2 1; have f2 := hbx.2 2))
        | (go_at_call 34; ((with_reducible refine CRDMB.out.mono ?_); rintro e w1 ⟨rfl, hA1, hbB, hlt1, hbW⟩; have hS1 : NAt w1 gn (.int .i64 n) := HNA.out.keep hbB; have hm1 : Arr w1 (wA.heap.size + 1) 3 (4 * n) (iv fun _ => 0) := arr_pre (W := (((wA.alloc (.cells #[.slice none 0 0, .slice none 0 0, .int .i64 0] 35)).alloc (.cells (cellsN (4 * n) fun _ => .int .i64 0) 3)).alloc (.cells #[.int .i64 1] 3)).drew) (heap3_1 wA _ _ _) hbW; have hbx : BxAt w1 (wA.heap.size) := bx_pre (W := (((wA.alloc (.cells #[.slice none 0 0, .slice none 0 0, .int .i64 0] 35)).alloc (.cells (cellsN (4 * n) fun _ => .int .i64 0) 3)).alloc (.cells #[.int .i64 1] 3)).drew) (heap3_0 wA _ _ _) hbW; have q0 := hbx.1.1; have q1 := hbx.1.2.1; have q2 := hbx.1.2.2.1; have f0 := hbx.2 0; have f1 := hbx.2 1; have f2 := hbx.2 2))
      )
    all_goals go_wp2_with fail
    all_goals go_meet
    all_goals first
      | (with_reducible refine fd_aft _ hA1 ?_ hbB; omega)
      | (with_reducible refine fd_mid _ hA1 ?_ hbB; omega)
      | (with_reducible refine fd_new _ hA1 hm1 ?_ ?_ ?_ hbB <;> omega)
      | (with_reducible refine fd_setm hbx hA1 ?_ ?_ ?_ hbB <;> omega)
      | (with_reducible refine fd_set hbx hA1 hm1 ?_ ?_ ?_ ?_ ?_ ?_ hbB <;> omega)
  case rest =>
    obtain ⟨gd, gS, gM, rfl, hd, hAS, hAM, l1, l2, l3, l4, l5, l6, hbX⟩ := hcut
    have hmf : ∀ (fn : Fn) (first cap : Array Value) (w : World), (Instr.makeFunc fn first cap).run Tryd.prog w = .ok (.func fn first cap) w := fun _ _ _ _ => rfl
    have hcf := enters_drawn
    have hS2 := HNA.out.keep hbX
    have hC2 := HGC.out.keep hbX
    have hR2 := HGR.out.kp hbX
    have hbd := hbX.size
    obtain ⟨x1, x2, x3, x4⟩ := HX.out
    have e1 : gn < wA.heap.size := x3
    have hb1 : Below wc.heap.size wc (wc.alloc (.cells #[.func (.func 35) #[] #[.pointer (some ⟨gn, 0, none⟩), .pointer (some ⟨gd, 0, none⟩), .pointer (some ⟨gc, 0, none⟩), .pointer (some ⟨wc.heap.size, 0, none⟩)]] 68)) := below_alloc _ _
    have hcfn : (wc.alloc (.cells #[.func (.func 35) #[] #[.pointer (some ⟨gn, 0, none⟩), .pointer (some ⟨gd, 0, none⟩), .pointer (some ⟨gc, 0, none⟩), .pointer (some ⟨wc.heap.size, 0, none⟩)]] 68)).cell? ⟨wc.heap.size, 0, none⟩ = some (.func (.func 35) #[] #[.pointer (some ⟨gn, 0, none⟩), .pointer (some ⟨gd, 0, none⟩), .pointer (some ⟨gc, 0, none⟩), .pointer (some ⟨wc.heap.size, 0, none⟩)]) := by rw [World.cell?_alloc_at _ _ _ _ rfl]; rfl
    have hds := hd.2.2.2
    have hsS := hAS.lt
    have hsM := hAM.lt
    have hscn : Scn gc gn gd wc.heap.size gS gM n n (4 * n) cc C wA code (wc.alloc (.cells #[.func (.func 35) #[] #[.pointer (some ⟨gn, 0, none⟩), .pointer (some ⟨gd, 0, none⟩), .pointer (some ⟨gc, 0, none⟩), .pointer (some ⟨wc.heap.size, 0, none⟩)]] 68)) (fun _ => 1) (fun _ => 0) :=
      ⟨below_step hbX hb1, HCA.out, (hS2.keep hb1).1, hd.keep hb1, (hC2.keep hb1).1, hcfn, hAS.keep hb1, hAM.keep hb1, by (simp; omega), ⟨l2, l3⟩, by omega⟩
    have hl1 : lstI 1 (fun _ => 1) = [1] := rfl
    have hpn : 1 + (n - 1) = n := by omega
    cases q : srch code (n - 1) [1] with
    | none =>
      have CD := drawn_any gc gn gd wc.heap.size gS gM n n (4 * n) cc C wA code h64 HI.out HV.out (n - 1) 1 (fun _ => 1) (fun _ => 0) _ false hpn (fun _ => by decide) hscn (by rw [hl1, q]; rfl)
      rw [hl1, q] at CD
      rw [show ((1 : Nat) : Int) = 1 from rfl] at CD
      have HCD := Lib.hid CD
      have HQ := Lib.hid q
      clear CD hscn q hl1 hpn hS2 hC2 hd hAS hAM hb1
      go_wp2_with ((with_reducible refine HCD.out.mono ?_); rintro e w2 ⟨S2, M2, rfl, h2, h3, h4, h5⟩; have hr2 := HGR.out.kp h2.hb; have r0 := hr2.1.1; have r1 := hr2.1.2.1; have r2 := hr2.1.2.2.1; have g0 := hr2.2 0; have g1 := hr2.2 1; have g2 := hr2.2 2)
      obtain ⟨k0, k1, k2⟩ := set3w_cells w2 gr (.slice none 0 0) (.slice none 0 0) (.int .i64 0) r0 r1 r2
      have HF := Lib.hid (show FirstPost code n w (srch code (n - 1) [1]) (.returned (.tuple #[dval none 0 0 none 0 0 0, .bool false])) (set3w w2 gr (.slice none 0 0) (.slice none 0 0) (.int .i64 0)) from ⟨set3w_below (HBw.out w2 h2.hb) (by omega) _ _ _, by rw [HQ.out]⟩)
      exact bodyPost_ret (v := .tuple #[dval none 0 0 none 0 0 0, .bool false]) (by simp [results, Tryd.results21, go_sem, k0, k1, k2]) rfl HF.out
    | some l =>
      have CD := drawn_any gc gn gd wc.heap.size gS gM n n (4 * n) cc C wA code h64 HI.out HV.out (n - 1) 1 (fun _ => 1) (fun _ => 0) _ true hpn (fun _ => by decide) hscn (by rw [hl1, q]; rfl)
      rw [hl1, q] at CD
      rw [show ((1 : Nat) : Int) = 1 from rfl] at CD
      have HCD := Lib.hid CD
      have HQ := Lib.hid q
      clear CD hscn q hl1 hpn hS2 hC2 hd hAS hAM hb1
      go_wp2_with ((with_reducible refine HCD.out.mono ?_); rintro e w2 ⟨S2, M2, rfl, h2, h3, h4, h5⟩; have hr2 := HGR.out.kp h2.hb; have r0 := hr2.1.1; have r1 := hr2.1.2.1; have r2 := hr2.1.2.2.1; have g0 := hr2.2 0; have g1 := hr2.2 1; have g2 := hr2.2 2; obtain ⟨d0, d1, d2, dl⟩ := h2.cd)
      obtain ⟨k0, k1, k2⟩ := set3w_cells w2 gr (.slice (some ⟨gS, 0, none⟩) n n) (.slice (some ⟨gM, 0, none⟩) (4 * n) (4 * n)) (.int .i64 0) r0 r1 r2
      obtain ⟨z1, z2⟩ := h5 l rfl
      have e1 : gS ≠ gr := by omega
      have e2 : gM ≠ gr := by omega
      have hS3 := ((h2.aS.far (p := ⟨gr, 0, none⟩) e1 (.slice (some ⟨gS, 0, none⟩) n n)).far (p := ⟨gr, 1, none⟩) e1 (.slice (some ⟨gM, 0, none⟩) (4 * n) (4 * n))).far (p := ⟨gr, 2, none⟩) e1 (.int .i64 0)
      have hM3 := ((h2.aM.far (p := ⟨gr, 0, none⟩) e2 (.slice (some ⟨gS, 0, none⟩) n n)).far (p := ⟨gr, 1, none⟩) e2 (.slice (some ⟨gM, 0, none⟩) (4 * n) (4 * n))).far (p := ⟨gr, 2, none⟩) e2 (.int .i64 0)
      have hS4 := ri_arr hS3
      have hM4 := rn_arr hM3
      rw [z1] at hS4
      rw [z2] at hM4
      have HF := Lib.hid (show FirstPost code n w (srch code (n - 1) [1]) (.returned (.tuple #[dval (some ⟨gS, 0, none⟩) n n (some ⟨gM, 0, none⟩) (4 * n) (4 * n) 0, .bool true])) (set3w w2 gr (.slice (some ⟨gS, 0, none⟩) n n) (.slice (some ⟨gM, 0, none⟩) (4 * n) (4 * n)) (.int .i64 0)) from ⟨set3w_below (HBw.out w2 h2.hb) (by omega) _ _ _, by rw [HQ.out]; exact ⟨gS, gM, rfl, hS4, hM4, by omega, by omega⟩⟩)
      exact bodyPost_ret (v := .tuple #[dval (some ⟨gS, 0, none⟩) n n (some ⟨gM, 0, none⟩) (4 * n) (4 * n) 0, .bool true]) (by simp [results, Tryd.results21, go_sem, k0, k1, k2]) rfl HF.out

end Go.Proofs.YtambhopkacgddaaDoor
