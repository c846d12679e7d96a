import Derived.Lib.SmallJoins
import Derived.Lib.AppendIntMem
import Derived.Test.YtebliaclleplgaaDoorB07
import Derived.Test.YtebliaclleplgaaDoorB08
import Derived.Test.YtebliaclleplgaaDoorB05
import Derived.Laws.BytesArg
import Derived.Test.YtebliaclleplgaaDoorCards
import Derived.Lib.LaidU8
import Derived.LaidMore
import Derived.LaidHandle
import Derived.OpenShut
import Derived.Stop.Joined
import Derived.Stop.LaidErr
import Derived.Test.YtebliaclleplgaaDoorB04
import Derived.Lib.ItoaLen
/- Walk: Format of a valid diagram. -/
namespace Go.Proofs.YtebliaclleplgaaDoor
open Go.ChangeShapes Go.WideShapes Go.ChangeAt Go.RowKit Go.Joins

theorem Tryd.gPow : Tryd.prog.globalNamed "internal/strconv.uint64pow10" = some 1 := by kernel_rfl
/-- The world holds the table that Itoa reads. -/
def PW (w : World) : Prop := Lib.TabIs Tryd.prog w "internal/strconv.uint64pow10" .u64 Lib.pow10Tab
theorem PW.keep {w w' : World} (h : PW w) (hb : Below w.heap.size w w') : PW w' := tab_stays Tryd.gPow h hb (Nat.le_refl _)
theorem itoa_nat (c : Nat) (hc : c ≤ 1000000) (w : World) (hD : PW w) :
    Calls Tryd.prog 18 #[.int .i64 (c : Nat)] w fun e w' => ∃ b : ByteArray, e = .returned (.string b) ∧ b.data.toList = Lib.decDigits c ∧ Below w.heap.size w w' := by
  refine (Tryd.strconv_Itoa (c : Nat) (by omega) (by omega) w hD).mono ?_
  rintro e w' ⟨rfl, k, os, hw⟩
  exact ⟨_, rfl, by rw [Lib.itoa_nonneg], by rw [hw]; exact Lib.below_grow _ w (Nat.le_refl _) k os⟩
theorem pn_data_cat (a b : ByteArray) : (a ++ b).data.toList = a.data.toList ++ b.data.toList := by simp [ByteArray.data_append]
theorem pn_size_of {b : ByteArray} {l : List UInt8} (h : b.data.toList = l) : b.size = l.length := by rw [← h]; exact Array.length_toList.symm
theorem Bld.keepB {w w' : World} {B b : Nat} {l : List UInt8} (h : Bld w B b l) (hb : Below w.heap.size w w') : Bld w' B b l := by
  have key : ∀ p, Lib.BuilderAtF 52 5 B b p (Lib.byteCells l) w → Lib.BuilderAtF 52 5 B b p (Lib.byteCells l) w' := fun p hp => by
    obtain ⟨hB, v, hbk, hown, hne⟩ := hp
    exact ⟨hB, v, (hb.block b (heap_lt hbk)).trans hbk, hown.kept (grown_of_below hb) (by cases e : v.ownBlock <;> simp), hne⟩
  exact h.imp (key _) (key _)
theorem writeStr (B b : Nat) (l m : List UInt8) (s : ByteArray) (hs : s.data.toList = m) (w : World) (h : Bld w B b l) (hlen : l.length ≤ 1000000) (hlm : m.length ≤ 1000000) (hBw : B ≤ w.heap.size) :
    Calls Tryd.prog 26 #[.pointer (some ⟨b, 0, none⟩), .string s] w fun e w' => (∃ k : Nat, e = .returned (.tuple #[.int .i64 k, .nilIface])) ∧ Bld w' B b (l ++ m) ∧ Below B w w' := by
  have := writeString_any B b l m w h (by omega) (by omega) hBw
  rw [show (⟨m.toArray⟩ : ByteArray) = s by rw [← hs]] at this
  refine this.mono ?_
  rintro e w' ⟨h1, h2, h3, _⟩
  exact ⟨h1, h2, h3⟩
theorem signText_any (x : Int) (w : World) : Calls Tryd.prog 27 #[.int .i64 x] w fun e w' => ∃ b : ByteArray, e = .returned (.string b) ∧ b.data.toList = sgT x ∧ w = w' := by
  by_cases hx : x = 1
  · subst hx
    go_enter Tryd.func27, Tryd.ntmps27
    go_wp2
    go_ret
    exact ⟨_, rfl, rfl, rfl⟩
  · have hx' : (x == 1) = false := by simpa using hx
    have HX : Hid ((⟨#[45]⟩ : ByteArray).data.toList = sgT x) := Lib.hid (by unfold sgT; rw [if_neg hx])
    go_enter Tryd.func27, Tryd.ntmps27
    go_wp2
    go_ret
    exact ⟨_, rfl, HX.out, rfl⟩

set_option maxHeartbeats 6400000 in
set_option maxRecDepth 100000 in
theorem format_yes (A B : Option Addr) (ns cs nm cm : Nat) (lp : Int) (s m : List Int) (w : World) (h : DV w A ns B nm s m) (hv : validB s m lp = true) (hP : PW w) :
    Calls Tryd.prog 10 #[dval A ns cs B nm cm lp] w fun e w' => ∃ b : ByteArray, e = .returned (.tuple #[.string b, .int .i64 0]) ∧ b.data.toList = pnT s (lbM s m lp) lp ∧ Below w.heap.size w w' := by
  have F := bk_facts hv
  have hls := h.hs.1
  have hlm := h.hm.1
  have hl4 := F.lm
  have h64 := F.le
  obtain ⟨_, _, l3, l4⟩ := limB_out F.lim
  have hsl := seq_len hv
  have hL1000 : ∀ j, lbM s m lp j < 1000 := fun j => by
    have := lbK_le (matesOf m) (seqM s m lp) (seqM s m lp).length j
    unfold lbM; omega
  have e4 : nm = 4 * ns := by omega
  have hd := DB.new w A ns cs B nm cm lp
  have hb0 := below_alloc w (dbox A ns cs B nm cm lp)
  have HD0 := Lib.hid hd
  have HDV := Lib.hid (h.keep hb0)
  have CV : ∀ W, DV W A ns B nm s m → Hid (Calls Tryd.prog 13 #[dval A ns cs B nm cm lp] W fun e w' => e = .returned (.bool true) ∧ Below W.heap.size W w') := fun W h => h.valid cs cm lp true hv
  have CL : ∀ W, DV W A ns B nm s m → Hid (Calls Tryd.prog 25 #[dval A ns cs B nm cm lp] W fun e w' => ∃ g, e = .returned (.slice (some ⟨g, 0, none⟩) nm nm) ∧ Arr w' g 3 nm (iv (lbM s m lp)) ∧ W.heap.size ≤ g ∧ Below W.heap.size W w') := fun W h => labels_any A B ns cs nm cm lp s m W h hv
  have HP := Lib.hid (PW.keep hP hb0)
  have HNM := Lib.hid e4
  have HS := Lib.hid h.hs
  obtain ⟨lpn, rfl⟩ := Int.eq_ofNat_of_zero_le l3
  have hlpn : lpn ≤ 64 := by omega
  obtain ⟨L, hL⟩ : ∃ L, lbM s m (lpn : Int) = L := ⟨_, rfl⟩
  simp only [hL] at CL hL1000 ⊢
  have HROWS : Hid (∀ k, (rowsT s L k).length ≤ 18 * k) := Lib.hid (rowsT_len s L hL1000)
  have HLB4 : Hid (∀ c k, (lb4 L c k).length ≤ 4 * k) := Lib.hid fun c k => lb4_len L c hL1000 k
  have HL := Lib.hid hL1000
  have hFIN : Hid (pnT s L (lpn : Nat) = rowsT s L ns ++ (lpT ++ Lib.decDigits lpn ++ [10])) := Lib.hid (by unfold pnT; rw [hls, Int.toNat_natCast])
  have hns : ns ≤ 64 := by omega
  clear F hl4 h64 l3 l4 hsl hlm h hv hL hP hL1000 e4 hls
  obtain ⟨d0, d1, d2, dlt⟩ := hd
  unfold dbox at *
  go_enter Tryd.func10, Tryd.ntmps10
  go_upto_region 5 with (first
    | (go_at_call 13; ((with_reducible refine (CV _ HDV.out).out.mono ?_); rintro e w1 ⟨rfl, hb1⟩; have HD1 := Lib.hid (HD0.out.keep hb1); obtain ⟨x0, x1, x2, xlt⟩ := HD1.out; have HDV1 := Lib.hid (HDV.out.keep hb1)))
    | (go_at_call 25; ((with_reducible refine (CL _ HDV1.out).out.mono ?_); rintro e w2 ⟨gL, rfl, har, hgL, hb2⟩; have HD2 := Lib.hid (HD1.out.keep hb2))))
  have hb12 := below_step hb1 hb2
  have hb02 := below_step hb0 hb12
  have hbT := below_alloc w2 (.cells #[.pointer none, .slice none 0 0] 52)
  have HB0 : Hid (Bld (w2.alloc (.cells #[.pointer none, .slice none 0 0] 52)) w2.heap.size w2.heap.size (rowsT s L 0)) := Lib.hid (Lib.IsBuilderF.of (Lib.fresh_isBuilder 52 5 w2))
  have HP2 := Lib.hid (PW.keep HP.out hb12)
  have HS2 := Lib.hid (HS.out.keep hb02)
  have HAR := Lib.hid har
  obtain ⟨p0, p1, p2, plt⟩ := HD2.out.keep hbT
  have HD2T := Lib.hid HD2.out
  clear har x0 x1 x2 xlt d0 d1 d2 dlt
  have hszT : (w2.alloc (.cells #[.pointer none, .slice none 0 0] 52)).heap.size = w2.heap.size + 1 := by simp
  generalize w2.alloc (.cells #[.pointer none, .slice none 0 0] 52) = wT at *
  go_wp2
  go_loopw [6, 7, 9, 18] (fun _ _ _ i wr => ∃ k : Nat, k ≤ ns ∧ i = .int .i64 k ∧ Below w2.heap.size w2 wr ∧ Bld wr w2.heap.size w2.heap.size (rowsT s L k)) (fun _ _ _ i _ => ns - (intOf i).toNat)
  case atStart => exact ⟨0, by omega, rfl, hbT, HB0.out⟩
  case round =>
    obtain ⟨k, hk, rfl, hbr, hbl⟩ := hrel
    have hk0 : (0 : Int) ≤ (k : Int) := Int.natCast_nonneg _
    have hsr := hbr.size
    have HBL := Lib.hid hbl
    clear hbl
    by_cases hlt : k < ns
    · obtain ⟨bA, oA, rfl, hbA, hcA⟩ := HS2.out.2 (by omega)
      have c0 := (hbr.cell (p := ⟨bA, oA + k, none⟩) hbA).trans (hcA k hlt)
      obtain ⟨sg, hsg⟩ : ∃ sg, s.getD k 0 = sg := ⟨_, rfl⟩
      rw [hsg] at c0
      have HSG := Lib.hid hsg
      have CT := fun W => Lib.hid (signText_any sg W)
      have hrl := HROWS.out k
      have hk1 : (k : Int) < (ns : Int) := by omega
      obtain ⟨T, hT⟩ : ∃ T, rowsT s L k = T := ⟨_, rfl⟩
      rw [hT] at hrl
      have HT := Lib.hid hT
      have HBL2 : Hid (Bld wr w2.heap.size w2.heap.size T) := Lib.hid (hT ▸ HBL.out)
      obtain ⟨c4, hc4⟩ : ∃ c4, 4 * k = c4 := ⟨_, rfl⟩
      have HC4 := Lib.hid hc4
      have m1 : IntKind.i64.wrap (4 * (k : Int)) = (c4 : Int) := by rw [IntWalk.i64_in _ (by omega)]; omega
      have m2 : IntKind.i64.wrap ((c4 : Int) + 4) = ((c4 + 4 : Nat) : Int) := by rw [IntWalk.i64_in _ (by omega)]; omega
      have m3 : c4 + 4 ≤ nm := by have := HNM.out; omega
      have m4 : (0 : Int) ≤ (c4 : Int) := Int.natCast_nonneg _
      have m5 : (c4 : Int) ≤ ((c4 + 4 : Nat) : Int) := by omega
      have m6 : ((c4 + 4 : Nat) : Int) ≤ (nm : Int) := by omega
      clear hcA hsg hT hc4
      obtain ⟨wO, hwO⟩ : ∃ wO : World, wO = wr := ⟨_, rfl⟩
      subst hwO
      go_upto_region 10 with (first
        | (go_at_call 27; ((with_reducible refine (CT _).out.mono ?_); rintro e w3 ⟨b3, rfl, hb3, rfl⟩; have HB3 := Lib.hid hb3; clear hb3))
        | (go_at_call 26; ((with_reducible refine (writeStr _ _ T (sgT sg) b3 HB3.out _ HBL2.out (by omega) (by simp [sgT]) hsr).mono ?_); rintro e w4 ⟨⟨kk, rfl⟩, hB4, hb4⟩)))
      rw [show c4 + 4 - c4 = 4 by omega]
      have hb24 : Below w2.heap.size w2 w4 := hbr.trans hb4
      go_loopw [9, 34] (fun _ j wr => ∃ q : Nat, q ≤ 4 ∧ j = .int .i64 q ∧ Below w2.heap.size w2 wr ∧ Bld wr w2.heap.size w2.heap.size (T ++ sgT sg ++ lb4 L k q)) (fun _ j _ => 4 - (intOf j).toNat)
      case atStart => exact ⟨0, by omega, rfl, hb24, by
        have : lb4 L k 0 = [] := rfl
        rw [this, List.append_nil]; exact hB4⟩
      case round =>
        obtain ⟨q, hq, rfl, hbq, hblq⟩ := hrel
        have hsq := hbq.size
        have hq0 : (0 : Int) ≤ (q : Int) := Int.natCast_nonneg _
        have hll := HLB4.out k q
        have hsgl : (sgT sg).length = 1 := rfl
        by_cases hq4 : q < 4
        · have hcL : wr.cell? ⟨gL, c4 + q, none⟩ = some (.int .i64 ((L (c4 + q) : Nat) : Int)) := (HAR.out.keep (hbq : Below w2.heap.size w2 wr)).cell (c4 + q) (by omega)
          have hL1 := HL.out (c4 + q)
          have hls := lb4_succ L k q
          rw [HC4.out] at hls
          obtain ⟨x, hx⟩ : ∃ x, L (c4 + q) = x := ⟨_, rfl⟩
          rw [hx] at hcL hL1 hls
          have HLS := Lib.hid hls
          have hdd := dec_three x (by omega)
          obtain ⟨U, hU⟩ : ∃ U, T ++ sgT sg ++ lb4 L k q = U := ⟨_, rfl⟩
          rw [hU] at hblq
          have hUl : U.length ≤ 2000 := by rw [← hU, List.length_append, List.length_append]; omega
          have HU := Lib.hid hU
          have HBQ := Lib.hid hblq
          have HPq := Lib.hid (PW.keep HP2.out hbq)
          have hq1 : (q : Int) < 4 := by omega
          clear hx hls hU hblq hll
          obtain ⟨wq, hwq⟩ : ∃ wq : World, wq = wr := ⟨_, rfl⟩
          subst hwq
          go_wp2_with (first
            | (go_at_call 28; ((with_reducible refine (writeByte_any _ _ U 32 32 rfl _ HBQ.out (by omega) hsq).mono ?_); rintro e w5 ⟨rfl, hB5, hb5, _⟩; have hs5 := hb5.size; have hP5 := Lib.hid (PW.keep HP2.out (hbq.trans hb5))))
            | (go_at_call 18; ((with_reducible refine (itoa_nat x (by omega) _ hP5.out).mono ?_); rintro e w6 ⟨b6, rfl, hb6t, hb6⟩; have HB6 := Lib.hid hb6t; clear hb6t; have hs6 := hb6.size; have hB6 := Lib.hid (Bld.keepB hB5 hb6)))
            | (go_at_call 26; ((with_reducible refine (writeStr _ _ (U ++ [32]) (Lib.decDigits x) b6 HB6.out _ hB6.out (by simp only [List.length_append, List.length_cons, List.length_nil]; omega) (by omega) (by omega)).mono ?_); rintro e w7 ⟨⟨kk7, rfl⟩, hB7, hb7⟩)))
          go_roundw
          case rel => exact ⟨q + 1, by omega, by go_num, ((hbq.trans hb5).trans (hb6.mono (by omega))).trans hb7, by
            rw [HLS.out, ← List.append_assoc, HU.out]
            have e : U ++ (32 :: Lib.decDigits x) = U ++ [32] ++ Lib.decDigits x := by simp
            rw [e]; exact hB7⟩
          case measure => simp [intOf]; omega
        · obtain rfl : q = 4 := by omega
          have hrs := rowsT_succ s L k
          rw [HT.out] at hrs
          unfold rowT at hrs
          rw [HSG.out] at hrs
          obtain ⟨U, hU⟩ : ∃ U, T ++ sgT sg ++ lb4 L k 4 = U := ⟨_, rfl⟩
          rw [hU] at hblq
          have hUl : U.length ≤ 2000 := by rw [← hU, List.length_append, List.length_append]; omega
          have HRS : Hid (rowsT s L (k + 1) = U ++ [10]) := Lib.hid (by rw [hrs, ← hU]; simp)
          have HBQ := Lib.hid hblq
          clear hrs hU hblq hll
          go_wp2_with ((go_at_call 28; ((with_reducible refine (writeByte_any _ _ U 10 10 rfl _ HBQ.out (by omega) hsq).mono ?_); rintro e w5 ⟨rfl, hB5, hb5, _⟩)))
          go_roundw
          case rel => exact ⟨k + 1, by omega, by go_num, hbq.trans hb5, by rw [HRS.out]; exact hB5⟩
          case measure => simp [intOf]; omega
    · obtain rfl : ns = k := by omega
      have hrl := HROWS.out ns
      have hP5 := Lib.hid (PW.keep HP2.out hbr)
      obtain ⟨q0, q1, q2, qlt⟩ := HD2T.out.below hbr HD2T.out.2.2.2
      have hdd := dec_three lpn (by omega)
      have HFIN := Lib.hid hFIN
      have HCAT : Hid (∀ b : ByteArray, b.data.toList = Lib.decDigits lpn → ((⟨#[108, 111, 111, 112, 115, 32]⟩ : ByteArray) ++ b ++ (⟨#[10]⟩ : ByteArray)).data.toList = lpT ++ Lib.decDigits lpn ++ [10]) := Lib.hid fun b hb => by rw [pn_data_cat, pn_data_cat, hb]; rfl
      have HZ : Hid (∀ b : ByteArray, b.data.toList = Lib.decDigits lpn → b.size ≤ 3) := Lib.hid fun b hb => by rw [pn_size_of hb]; exact hdd
      clear hFIN p0 p1 p2
      go_wp2_with (first
        | (go_at_call 18; ((with_reducible refine (itoa_nat lpn (by omega) _ hP5.out).mono ?_); rintro e w6 ⟨b6, rfl, hb6t, hb6⟩; have hz6 := HZ.out b6 hb6t; have HB6 := Lib.hid hb6t; clear hb6t; have hs6 := hb6.size; have hB6 := Lib.hid (Bld.keepB HBL.out hb6)))
        | (go_at_call 26; ((with_reducible refine (writeStr _ _ (rowsT s L ns) (lpT ++ Lib.decDigits lpn ++ [10]) _ (HCAT.out b6 HB6.out) _ hB6.out (by omega) (by simp only [lpT, List.length_append, List.length_cons, List.length_nil]; omega) (by omega)).mono ?_); rintro e w7 ⟨⟨kk7, rfl⟩, hB7, hb7⟩; have hs7 := hb7.size; have HB7 := Lib.hid hB7; clear hB7))
        | (go_at_call 29; ((with_reducible refine (Tryd.Builder_String_any_k _ _ _ _ HB7.out (by omega)).mono ?_); rintro e w8 ⟨rfl, _, hb8, _⟩)))
      go_ret2
      exact ⟨_, rfl, by rw [HFIN.out]; simp, (hb02.trans ((hbr.trans (hb6.mono hsr)).mono hb02.size)).trans ((hb7.trans hb8).mono hb02.size)⟩

end Go.Proofs.YtebliaclleplgaaDoor

/- Walk: awake of layer 3. -/
namespace Go.Proofs.YtebliaclleplgaaDoor
open Go.ChangeShapes Go.WideShapes Go.ChangeAt Go.RowKit Go.Joins

theorem pkk_strands : strandsM kkS kkM 0 = [[1, 2]] := by
  unfold strandsM; rw [if_pos kk_valid]; decide +kernel
theorem pkk_lab : lbM kkS kkM 0 0 = 1 ∧ lbM kkS kkM 0 1 = 1 ∧ lbM kkS kkM 0 2 = 2 ∧ lbM kkS kkM 0 3 = 2 := by
  unfold lbM seqM; rw [pkk_strands]; decide +kernel
def kkText : List UInt8 := [43, 32, 49, 32, 49, 32, 50, 32, 50, 10, 108, 111, 111, 112, 115, 32, 48, 10]
theorem pkk_text : pnT kkS (lbM kkS kkM 0) 0 = kkText := by
  obtain ⟨h0, h1, h2, h3⟩ := pkk_lab
  have d0 : Lib.decDigits 0 = [48] := by rw [Lib.decDigits_one (by decide)]; decide
  have d1 : Lib.decDigits 1 = [49] := by rw [Lib.decDigits_one (by decide)]; decide
  have d2 : Lib.decDigits 2 = [50] := by rw [Lib.decDigits_one (by decide)]; decide
  have e4 : lb4 (lbM kkS kkM 0) 0 4 = [32, 49, 32, 49, 32, 50, 32, 50] := by
    rw [lb4_succ, lb4_succ, lb4_succ, lb4_succ]
    show (((([] : List UInt8) ++ (32 :: Lib.decDigits (lbM kkS kkM 0 0))) ++ (32 :: Lib.decDigits (lbM kkS kkM 0 1))) ++ (32 :: Lib.decDigits (lbM kkS kkM 0 2))) ++ (32 :: Lib.decDigits (lbM kkS kkM 0 3)) = _
    rw [h0, h1, h2, h3, d1, d2]; rfl
  have er : rowsT kkS (lbM kkS kkM 0) 1 = [43, 32, 49, 32, 49, 32, 50, 32, 50, 10] := by
    rw [rowsT_succ]
    show ([] : List UInt8) ++ (sgT 1 ++ lb4 (lbM kkS kkM 0) 0 4 ++ [10]) = _
    rw [e4]; rfl
  show rowsT kkS (lbM kkS kkM 0) 1 ++ (lpT ++ Lib.decDigits 0 ++ [10]) = _
  rw [er, d0]; rfl
theorem pkk_enc : enL kkS (matesOf kkM) 0 4 = [1, 0, 1, 0, 3] := by decide +kernel
theorem RI.litP (w : World) (xs : List Int) : RI (w.alloc (.cells (ints xs).toArray 3)) (some ⟨w.heap.size, 0, none⟩) xs.length xs :=
  ⟨rfl, fun _ => ⟨w.heap.size, 0, rfl, by simp, fun j hj => by
    rw [World.cell?_alloc_at _ _ _ _ rfl, Nat.zero_add]
    simp [ints, List.getD, hj]⟩⟩
theorem kinkP_any (w : World) : Calls Tryd.prog 24 #[] w fun e w' => ∃ A B, e = .returned (dval A 1 1 B 4 4 0) ∧ DV w' A 1 B 4 kkS kkM ∧ Below w.heap.size w w' := by
  go_enter Tryd.func24, Tryd.ntmps24
  go_wp2
  refine bodyPost_ret (v := dval (some ⟨w.heap.size + 1, 0, none⟩) 1 1 (some ⟨w.heap.size + 1 + 1, 0, none⟩) 4 4 0) (by simp [results, Tryd.results24, go_sem]) rfl ⟨_, _, rfl, ⟨?_, ?_, by omega, by omega, ?_⟩, ?_⟩
  · have := (RI.litP (w.alloc (dbox (some ⟨w.heap.size + 1, 0, none⟩) 1 1 (some ⟨w.heap.size + 1 + 1, 0, none⟩) 4 4 0)) kkS).alloc (.cells (ints kkM).toArray 3)
    simpa [kkS, kkM, ints] using this
  · have := RI.litP ((w.alloc (dbox (some ⟨w.heap.size + 1, 0, none⟩) 1 1 (some ⟨w.heap.size + 1 + 1, 0, none⟩) 4 4 0)).alloc (.cells (ints kkS).toArray 3)) kkM
    simpa [kkS, kkM, ints] using this
  · exact (by decide : ∀ j, j < 4 → -9223372036854775808 ≤ mt kkM j ∧ mt kkM j ≤ 9223372036854775807)
  · exact below_step (below_step (below_alloc _ _) (below_alloc _ _)) (below_alloc _ _)
theorem rb_string {w : World} {A : Option Addr} {n c : Nat} {xs : List Int} (h : RB w A n xs) (hn : 0 < n) : (convert 39 9 (.slice A n c)).run Tryd.prog w = .ok (.string (strOfNums xs)) w := by
  obtain ⟨b, off, rfl, hb, hc⟩ := h.2 hn
  exact run_convert_bytes_arg (P := Tryd.prog) w 39 5 Tryd.underlying39 Tryd.underlying5 b off n c xs h.1 hc 9 Tryd.underlying9
theorem kk_format (A B : Option Addr) (W : World) (h : DV W A 1 B 4 kkS kkM) (hP : PW W) : Calls Tryd.prog 10 #[dval A 1 1 B 4 4 0] W fun e w' => e = .returned (.tuple #[.string ⟨kkText.toArray⟩, .int .i64 0]) ∧ Below W.heap.size W w' := by
  refine (format_yes A B 1 1 4 4 0 kkS kkM W h kk_valid hP).mono ?_
  rintro e w' ⟨b, rfl, hb, hw⟩
  rw [pkk_text] at hb
  exact ⟨by rw [← hb], hw⟩
theorem kk_encode (A B : Option Addr) (W : World) (h : DV W A 1 B 4 kkS kkM) : Calls Tryd.prog 19 #[dval A 1 1 B 4 4 0] W fun e w' => ∃ A' c, e = .returned (.tuple #[.slice A' 5 c, .int .i64 0]) ∧ RB w' A' 5 [1, 0, 1, 0, 3] ∧ Below W.heap.size W w' := by
  refine (encode_yes A B 1 1 4 4 0 kkS kkM W h kk_valid).mono ?_
  rintro e w' ⟨A', c, rfl, hb, hw⟩
  rw [pkk_enc] at hb ⊢
  exact ⟨A', c, rfl, hb, hw⟩

set_option maxHeartbeats 3200000 in
set_option maxRecDepth 100000 in
theorem pawake_any (w : World) (hP : PW w) : Calls Tryd.prog 9 #[] w fun e w' => e = .returned (.bool true) ∧ Below w.heap.size w w' := by
  have HP := Lib.hid hP
  have CK := fun W => Lib.hid (kinkP_any W)
  have hstr : strOfNums [1, 0, 1, 0, 3] = ⟨#[1, 0, 1, 0, 3]⟩ := by decide
  have HST := Lib.hid hstr
  have ht : kkText.toArray = #[43, 32, 49, 32, 49, 32, 50, 32, 50, 10, 108, 111, 111, 112, 115, 32, 48, 10] := rfl
  have CF : ∀ (W : World) (A B : Option Addr), DV W A 1 B 4 kkS kkM → PW W → Hid (Calls Tryd.prog 10 #[dval A 1 1 B 4 4 0] W fun e w' => e = .returned (.tuple #[.string ⟨#[43, 32, 49, 32, 49, 32, 50, 32, 50, 10, 108, 111, 111, 112, 115, 32, 48, 10]⟩, .int .i64 0]) ∧ Below W.heap.size W w') := fun W A B h hp => Lib.hid (by rw [← ht]; exact kk_format A B W h hp)
  have CE : ∀ (W : World) (A B : Option Addr), DV W A 1 B 4 kkS kkM → Hid (Calls Tryd.prog 19 #[dval A 1 1 B 4 4 0] W fun e w' => ∃ A' c, e = .returned (.tuple #[.slice A' 5 c, .int .i64 0]) ∧ RB w' A' 5 [1, 0, 1, 0, 3] ∧ Below W.heap.size W w') := fun W A B h => Lib.hid (kk_encode A B W h)
  clear hP hstr ht
  go_enter Tryd.func9, Tryd.ntmps9
  go_wp2_with (first
    | (go_at_call 19; ((with_reducible refine (CE _ _ _ dv3).out.mono ?_); rintro e w4 ⟨A4, c4, rfl, hr4, hb4⟩; obtain ⟨b4, o4, rfl, _⟩ := hr4.2 (by omega); have hcv := rb_string (c := c4) hr4 (by omega); rw [HST.out] at hcv))
    | (go_at_call 24; ((with_reducible refine (CK w2).out.mono ?_); rintro e w3 ⟨A3, B3, rfl, dv3, hb3⟩))
    | (go_at_call 10; ((with_reducible refine (CF _ _ _ dv1 (PW.keep HP.out hb1)).out.mono ?_); rintro e w2 ⟨rfl, hb2⟩))
    | (go_at_call 24; ((with_reducible refine (CK w).out.mono ?_); rintro e w1 ⟨A1, B1, rfl, dv1, hb1⟩)))
  go_ret
  exact ⟨rfl, below_step (below_step (below_step hb1 hb2) hb3) hb4⟩

end Go.Proofs.YtebliaclleplgaaDoor

/- Walk: the law PlanarEncodes. -/
namespace Go.Proofs.YtebliaclleplgaaDoor
open Go.ChangeShapes Go.WideShapes Go.ChangeAt Go.RowKit Go.Joins

theorem dv_valid {w : World} {A B : Option Addr} {ns nm : Nat} {s m : List Int} {lp : Int} (hs : RI w A ns s) (hm : RI w B nm m) (hmI : ∀ z ∈ m, inI z) (hv : validB s m lp = true) : DV w A ns B nm s m :=
  DV.lim (lp := lp) hs hm hmI (by rw [← hs.1, ← hm.1]; exact (bk_facts hv).lim)
set_option maxHeartbeats 1600000 in
set_option maxRecDepth 100000 in
theorem encode_no (A B : Option Addr) (ns cs nm cm : Nat) (lp : Int) (s m : List Int) (w : World) (hs : RI w A ns s) (hm : RI w B nm m) (hmI : ∀ z ∈ m, inI z) (hv : validB s m lp = false) :
    Calls Tryd.prog 19 #[dval A ns cs B nm cm lp] w fun e w' => e = .returned (.tuple #[.slice none 0 0, .int .i64 1]) ∧ Below w.heap.size w w' := by
  have hb0 := below_alloc w (dbox A ns cs B nm cm lp)
  obtain ⟨d0, d1, d2, dlt⟩ := DB.new w A ns cs B nm cm lp
  have CV := Lib.hid (valid_all cs cm (hs.keep hb0) (hm.keep hb0) hmI false hv)
  clear hs hm hmI hv
  go_enter Tryd.func19, Tryd.ntmps19
  go_wp2_with ((go_at_call 13; ((with_reducible refine CV.out.mono ?_); rintro e w1 ⟨rfl, hb1⟩)))
  go_ret2
  exact ⟨rfl, below_step hb0 hb1⟩
set_option maxHeartbeats 1600000 in
set_option maxRecDepth 100000 in
theorem format_no (A B : Option Addr) (ns cs nm cm : Nat) (lp : Int) (s m : List Int) (w : World) (hs : RI w A ns s) (hm : RI w B nm m) (hmI : ∀ z ∈ m, inI z) (hv : validB s m lp = false) :
    Calls Tryd.prog 10 #[dval A ns cs B nm cm lp] w fun e w' => e = .returned (.tuple #[.string ⟨#[]⟩, .int .i64 1]) ∧ Below w.heap.size w w' := by
  have hb0 := below_alloc w (dbox A ns cs B nm cm lp)
  obtain ⟨d0, d1, d2, dlt⟩ := DB.new w A ns cs B nm cm lp
  have CV := Lib.hid (valid_all cs cm (hs.keep hb0) (hm.keep hb0) hmI false hv)
  clear hs hm hmI hv
  go_enter Tryd.func10, Tryd.ntmps10
  go_wp2_with ((go_at_call 13; ((with_reducible refine CV.out.mono ?_); rintro e w1 ⟨rfl, hb1⟩)))
  go_ret2
  exact ⟨rfl, below_step hb0 hb1⟩

set_option maxHeartbeats 6400000 in
set_option maxRecDepth 100000 in
theorem pencodes_walk (A B : Option Addr) (ns cs nm cm : Nat) (lp : Int) (s m : List Int) (w : World) (hs : RI w A ns s) (hm : RI w B nm m) (hmI : ∀ z ∈ m, inI z) (hP : PW w) :
    Calls Tryd.prog 6 #[dval A ns cs B nm cm lp] w fun e w' => e = .returned (.bool true) ∧ Below w.heap.size w w' := by
  have hb0 := below_alloc w (dbox A ns cs B nm cm lp)
  have HD := Lib.hid (DB.new w A ns cs B nm cm lp)
  have CA := Lib.hid (pawake_any (w.alloc (dbox A ns cs B nm cm lp)) (PW.keep hP hb0))
  cases hv : validB s m lp with
  | false =>
    have CE : ∀ W, Below w.heap.size w W → Hid (Calls Tryd.prog 19 #[dval A ns cs B nm cm lp] W fun e w' => e = .returned (.tuple #[.slice none 0 0, .int .i64 1]) ∧ Below W.heap.size W w') := fun W hb => encode_no A B ns cs nm cm lp s m W (hs.keep hb) (hm.keep hb) hmI hv
    have CR : ∀ W, Below w.heap.size w W → Hid (Calls Tryd.prog 11 #[dval A ns cs B nm cm lp] W fun e w' => e = .returned (.bool false) ∧ Below W.heap.size W w') := fun W hb => rvalid_all cs cm (hs.keep hb) (hm.keep hb) hmI false hv
    clear hs hm hmI hv hP
    go_enter Tryd.func6, Tryd.ntmps6
    go_wp2_with (first
      | (go_at_call 9; ((with_reducible refine CA.out.mono ?_); rintro e w1 ⟨rfl, hb1'⟩; have hb1 := below_step hb0 hb1'; have HD1 := Lib.hid (HD.out.keep hb1'); obtain ⟨a0, a1, a2, alt⟩ := HD1.out))
      | (go_at_call 19; ((with_reducible refine (CE _ hb1).out.mono ?_); rintro e w2 ⟨rfl, hb2'⟩; have hb2 := below_step hb1 hb2'; have HD2 := Lib.hid (HD1.out.keep hb2'); obtain ⟨b0, b1, b2, blt⟩ := HD2.out))
      | (go_at_call 11; ((with_reducible refine (CR _ hb2).out.mono ?_); rintro e w3 ⟨rfl, hb3⟩)))
    go_ret
    exact ⟨rfl, below_step hb2 hb3⟩
  | true =>
    have hdv := dv_valid hs hm hmI hv
    have CE : ∀ W, Below w.heap.size w W → Hid (Calls Tryd.prog 19 #[dval A ns cs B nm cm lp] W fun e w' => ∃ A' c, e = .returned (.tuple #[.slice A' (enL s (matesOf m) lp nm).length c, .int .i64 0]) ∧ RB w' A' (enL s (matesOf m) lp nm).length (enL s (matesOf m) lp nm) ∧ Below W.heap.size W w') := fun W hb => encode_yes A B ns cs nm cm lp s m W (hdv.keep hb) hv
    have CB : ∀ W, Below w.heap.size w W → Hid (Calls Tryd.prog 20 #[dval A ns cs B nm cm lp] W fun e w' => ∃ A' c, e = .returned (.slice A' (enL s (matesOf m) lp nm).length c) ∧ RB w' A' (enL s (matesOf m) lp nm).length (enL s (matesOf m) lp nm) ∧ Below W.heap.size W w') := fun W hb => rbytes_any A B ns cs nm cm lp s m W (hdv.keep hb) hv
    have CR : ∀ W, Below w.heap.size w W → Hid (Calls Tryd.prog 11 #[dval A ns cs B nm cm lp] W fun e w' => e = .returned (.bool true) ∧ Below W.heap.size W w') := fun W hb => rvalid_all cs cm (hs.keep hb) (hm.keep hb) hmI true hv
    have hN : 0 < (enL s (matesOf m) lp nm).length := by simp [enL]
    obtain ⟨xs, hxs⟩ : ∃ xs, enL s (matesOf m) lp nm = xs := ⟨_, rfl⟩
    simp only [hxs] at CE CB hN
    obtain ⟨N, hNN⟩ : ∃ N, xs.length = N := ⟨_, rfl⟩
    simp only [hNN] at CE CB hN
    obtain ⟨str, hstr⟩ : ∃ str, strOfNums xs = str := ⟨_, rfl⟩
    have CONV : Hid (∀ (W : World) (A : Option Addr) (c : Nat), RB W A N xs → (convert 39 9 (.slice A N c)).run Tryd.prog W = .ok (.string str) W) := Lib.hid fun W A c h => by rw [← hstr]; exact rb_string h hN
    clear hs hm hmI hv hP hdv hxs hNN hstr
    go_enter Tryd.func6, Tryd.ntmps6
    go_upto_region 6 with (first
      | (go_at_call 9; ((with_reducible refine CA.out.mono ?_); rintro e w1 ⟨rfl, hb1'⟩; have hb1 := below_step hb0 hb1'; have HD1 := Lib.hid (HD.out.keep hb1'); obtain ⟨a0, a1, a2, alt⟩ := HD1.out))
      | (go_at_call 19; ((with_reducible refine (CE _ hb1).out.mono ?_); rintro e w2 ⟨A2, c2, rfl, hr2, hb2'⟩; have hb2 := below_step hb1 hb2'; have HD2 := Lib.hid (HD1.out.keep hb2'); obtain ⟨b0, b1, b2, blt⟩ := HD2.out))
      | (go_at_call 11; ((with_reducible refine (CR _ hb2).out.mono ?_); rintro e w3 ⟨rfl, hb3'⟩; have hb3 := below_step hb2 hb3'; have HD3 := Lib.hid (HD2.out.keep hb3'); have hr3 := hr2.keep hb3')))
    obtain ⟨p0, p1, p2, plt⟩ := HD3.out
    have HR3 := Lib.hid hr3
    have hbD : Below w3.heap.size w3 w3.drew := (Below.refl _ _).drew
    have cv0 := CONV.out w3.drew A2 c2 (HR3.out.keep hbD)
    clear hr2 hr3 a0 a1 a2 alt b0 b1 b2 blt
    go_region_with (first
        | (go_at_call 20; ((with_reducible refine (CB _ (below_step hb3 hbD)).out.mono ?_); rintro e w4 ⟨A4, c4, rfl, hr4, hb4'⟩; have hb4 := below_step hbD hb4'; have cv1 := CONV.out w4 A2 c2 (HR3.out.keep hb4); have cv2 := CONV.out w4 A4 c4 hr4; clear hr4)))
    all_goals (go_wp2; go_ret; exact ⟨rfl, below_step hb3 hb4⟩)

end Go.Proofs.YtebliaclleplgaaDoor

/- From the cards' condition to the table that Itoa reads; a world that meets the condition. -/
namespace Go.Proofs.YtebliaclleplgaaDoor
open Go.ChangeShapes Go.WideShapes Go.ChangeAt Go.RowKit Go.Joins

abbrev gLaid : List (String × DataW Unit) := Rows.planarEncodesRow.laid
theorem door_met (os : Os) (args : Array Value) : laidMetH Tryd.prog gLaid ((World.doorLaid Tryd.prog 400 os).forCall (fun _ _ => 0) ⟨#[], args, []⟩).memory :=
  laidMetH_of_parts3 (fuel := 8) (laidMet_of_run' 8 (by kernel_rfl) (by kernel_rfl)) (by kernel_rfl) (by kernel_rfl)
theorem pow_data : (Rows.laid_internal_strconv_uint64pow10 : DataW Unit) = Lib.tabData .u64 Lib.pow10Tab := by kernel_rfl
theorem laid_plain {W : World} (h : laidMetH Tryd.prog gLaid W) : laidMet Tryd.prog gLaid W := by
  rw [MakeChecks.laidMetH_plain _ _ _ (by kernel_rfl)] at h
  exact h
theorem pw_of_laid {W : World} (h : laidMetH Tryd.prog gLaid W) : PW W := by
  have h1 := laid_plain h
  have h3 : laidMet Tryd.prog [("internal/strconv.uint64pow10", Rows.laid_internal_strconv_uint64pow10)] W := h1.tail.tail
  rw [pow_data] at h3
  exact Lib.tabIs_of_head Tryd.gPow (by kernel_rfl) Tryd.underlying122 Tryd.underlying113 (by kernel_rfl) (by kernel_rfl) h3

end Go.Proofs.YtebliaclleplgaaDoor

/- Walks of the reference: Labels, Decimal, Text. -/
namespace Go.Proofs.YtebliaclleplgaaDoor
open Go.ChangeShapes Go.WideShapes Go.ChangeAt Go.RowKit Go.Joins

theorem strandsP_call {W : World} {A B : Option Addr} {ns nm : Nat} {s m : List Int} {lp : Int} (cs cm : Nat) (h : DV W A ns B nm s m) (hv : validB s m lp = true) :
    Calls Tryd.prog 60 #[dval A ns cs B nm cm lp] W (CycsPost W (strandsM s m lp)) := by
  have F := bk_facts hv
  have hlm := h.hm.1
  have hls := h.hs.1
  have hl := F.lm
  have hle := F.le
  have hmm := matesOf_mates F.pr hlm
  have hp : Perm (fs (matesOf m)) nm := by rw [← hlm]; exact F.p
  have e : strandsM s m lp = cycL (fs (matesOf m)) nm (outB s) nm := by unfold strandsM; rw [if_pos hv, hlm]
  rw [e]
  exact rstrands_any A B ns cs nm cm lp s m (matesOf m) W h.hs (by omega) h.hm hmm hp (by omega) (fun x hx ho => out_closed F.sg F.pr hlm hls (by omega) x hx ho)
theorem OO.rowsB {w : World} {B : Nat} {v : Value} {xss : List (List Int)} (h : OO w B v xss) (hne : ∀ j, j < xss.length → 0 < (xss.getD j []).length) : ∃ A c, v = .slice A xss.length c ∧ ∀ k, k < xss.length → ∃ b, A = some ⟨b, 0, none⟩ ∧ B ≤ b ∧ b < w.heap.size ∧ ∃ b' c', w.cell? ⟨b, k, none⟩ = some (.slice (some ⟨b', 0, none⟩) (xss.getD k []).length c') ∧ B ≤ b' ∧ b' < w.heap.size ∧ ∀ j, j < (xss.getD k []).length → w.cell? ⟨b', j, none⟩ = some (.int .i64 ((xss.getD k []).getD j 0)) := by
  obtain ⟨vs, h1, h2, h3⟩ := h
  rcases id h1.2 with ⟨h4, h5⟩ | ⟨g, cap, cur, h4, hBg, hg, _⟩
  · exact ⟨none, 0, by rw [h4, ← h2, h5], fun k hk => by omega⟩
  · refine ⟨_, cap, by rw [h4, h2], fun k hk => ⟨g, rfl, hBg, heap_lt hg, ?_⟩⟩
    have hk' : k < vs.length := by omega
    have h6 : w.cell? ⟨g, k, none⟩ = vs[k]? := by
      have h7 : w.ownsRow B 22 1 (.slice (some ⟨g, 0, none⟩) vs.length cap) vs.length vs := by rw [← h4]; exact h1
      exact World.ownsRow.cellAt h7 k (by omega)
    have h8 := h3 k hk
    have h9 : vs.getD k undef = vs[k] := by simp [List.getD, hk']
    rw [h9] at h8
    have hn := hne k hk
    rcases h8.form with ⟨e, e0⟩ | ⟨g', cap', e, hB', hl'⟩
    · rw [e0] at hn; simp at hn
    · rw [e] at h8
      exact ⟨g', cap', by rw [h6, List.getElem?_eq_getElem hk', e], hB', hl', fun j hj => h8.cell j hj⟩
theorem flat_at (xss : List (List Int)) (i k : Nat) (hi : i < xss.length) (hk : k < (xss.getD i []).length) : xss.flatten.getD ((flT xss i).length + k) 0 = (xss.getD i []).getD k 0 := by
  have e1 : xss.flatten = flT xss (i + 1) ++ (xss.drop (i + 1)).flatten := by
    unfold flT
    rw [← List.flatten_append, List.take_append_drop]
  rw [e1, flT_succ xss i hi, List.append_assoc]
  simp only [List.getD] at hk ⊢
  rw [List.getElem?_append_right (by omega), show (flT xss i).length + k - (flT xss i).length = k by omega, List.getElem?_append_left hk]

set_option maxHeartbeats 6400000 in
set_option maxRecDepth 100000 in
theorem rlabels_any (A B : Option Addr) (ns cs nm cm : Nat) (lp : Int) (s m : List Int) (w : World) (h : DV w A ns B nm s m) (hv : validB s m lp = true) :
    Calls Tryd.prog 33 #[dval A ns cs B nm cm lp] w fun e w' => ∃ g, e = .returned (.slice (some ⟨g, 0, none⟩) nm nm) ∧ Arr w' g 3 nm (iv (lbM s m lp)) ∧ w.heap.size ≤ g ∧ Below w.heap.size w w' := by
  have F := bk_facts hv
  have hls := h.hs.1
  have hlm := h.hm.1
  have hl4 := F.lm
  have h64 := F.le
  have hmm : ∀ x, x < nm → m.getD x 0 = (matesOf m x : Int) ∧ matesOf m x < nm := matesOf_mates F.pr hlm
  have hsl := seq_len hv
  have hsq : ∀ k, k < (seqM s m lp).length → ∃ x : Nat, (seqM s m lp).getD k 0 = (x : Int) ∧ x < nm := fun k hk => by
    obtain ⟨x, e, hx, _⟩ := seq_at hv (k := k) (by omega)
    exact ⟨x, e, by omega⟩
  have hnm : nm ≤ 256 := by omega
  have hd := DB.new w A ns cs B nm cm lp
  have hb0 := below_alloc w (dbox A ns cs B nm cm lp)
  have hmk := fun W => make_one (P := Tryd.prog) Tryd.underlying22 Tryd.infoInt rfl nm (by omega) (by omega) W
  have hbM := below_alloc (w.alloc (dbox A ns cs B nm cm lp)) (.cells (cellsN nm fun _ => .int .i64 0) 3)
  have HDM := Lib.hid (hd.keep hbM)
  have HDV := Lib.hid ((h.keep hb0).keep hbM)
  have HA0 := Lib.hid ((Arr.new (w.alloc (dbox A ns cs B nm cm lp)) nm 3 (fun _ => .int .i64 0)).congr (V' := iv (lbK (matesOf m) (seqM s m lp) 0)) fun _ _ => rfl)
  have hsz : (w.alloc (dbox A ns cs B nm cm lp)).heap.size = w.heap.size + 1 := by simp
  rw [hsz] at HA0
  have hb00 := below_step hb0 hbM
  have HSZ2 : Hid (((w.alloc (dbox A ns cs B nm cm lp)).alloc (.cells (cellsN nm fun _ => .int .i64 0) 3)).heap.size = w.heap.size + 2) := Lib.hid (by simp)
  have CS : ∀ W, DV W A ns B nm s m → Hid (Calls Tryd.prog 60 #[dval A ns cs B nm cm lp] W (CycsPost W (strandsM s m lp))) := fun W h => strandsP_call cs cm h hv
  have hxl : (strandsM s m lp).length ≤ 256 := by
    have h1 := strandsM_le (signs := s) (mate := m) (lp := lp)
    omega
  have HNE : Hid (∀ j, j < (strandsM s m lp).length → 0 < ((strandsM s m lp).getD j []).length) := Lib.hid fun j hj => strands_ne hj
  have HFL : Hid (∀ i k, i < (strandsM s m lp).length → k < ((strandsM s m lp).getD i []).length → (seqM s m lp).getD ((flT (strandsM s m lp) i).length + k) 0 = ((strandsM s m lp).getD i []).getD k 0) := Lib.hid fun i k hi hk => flat_at _ i k hi hk
  have HFS : Hid (∀ i, i < (strandsM s m lp).length → (flT (strandsM s m lp) (i + 1)).length = (flT (strandsM s m lp) i).length + ((strandsM s m lp).getD i []).length) := Lib.hid fun i hi => by rw [flT_succ _ _ hi, List.length_append]
  have HFE : Hid (∀ i, (flT (strandsM s m lp) i).length ≤ (seqM s m lp).length) := Lib.hid fun i => flT_le _ i
  have HFA : Hid ((flT (strandsM s m lp) (strandsM s m lp).length).length = (seqM s m lp).length) := Lib.hid (by rw [flT_all]; rfl)
  have HM := Lib.hid h.hm
  have HMM := Lib.hid hmm
  have HSQ := Lib.hid hsq
  have HLB : Hid (lbK (matesOf m) (seqM s m lp) (seqM s m lp).length = lbM s m lp) := Lib.hid rfl
  obtain ⟨pM, hpM⟩ : ∃ pM, matesOf m = pM := ⟨_, rfl⟩
  obtain ⟨xss, hxs⟩ : ∃ xss, strandsM s m lp = xss := ⟨_, rfl⟩
  obtain ⟨q, hq⟩ : ∃ q, seqM s m lp = q := ⟨_, rfl⟩
  obtain ⟨fin, hfin⟩ : ∃ fin, lbM s m lp = fin := ⟨_, rfl⟩
  rw [hfin] at HLB ⊢
  rw [hpM] at HMM HA0 HLB
  simp only [hxs, hq] at CS HSQ HA0 HLB hsl hxl HNE HFL HFS HFE HFA
  have hql : q.length ≤ 128 := by omega
  obtain ⟨L, hL⟩ : ∃ L, q.length = L := ⟨_, rfl⟩
  rw [hL] at HSQ HLB hql HFE HFA
  obtain ⟨X, hX⟩ : ∃ X, xss.length = X := ⟨_, rfl⟩
  have HX := Lib.hid hX
  simp only [hX] at HNE HFL HFS HFA hxl
  clear hmm hsq F hl4 h64 hsl hls hlm h hv hpM hxs hq hfin hL hX hsz
  obtain ⟨d0, d1, d2, dlt⟩ := hd
  unfold dbox at *
  go_enter Tryd.func33, Tryd.ntmps33
  go_upto_region 2 with fail
  generalize ((w.alloc (.cells #[.slice A ns cs, .slice B nm cm, .int .i64 lp] 24)).alloc (.cells (cellsN nm fun _ => .int .i64 0) 3)) = wM at *
  clear d0 d1 d2 dlt
  obtain ⟨x0, x1, x2, xlt⟩ := HDM.out
  go_wp2_with ((go_at_call 60; ((with_reducible refine (CS _ HDV.out).out.mono ?_); rintro e w2 ⟨v1, rfl, ho1, hb2⟩; obtain ⟨A1, c1, rfl, hro1⟩ := OO.rowsB ho1 (by rw [HX.out]; exact HNE.out); rw [HX.out] at hro1; rw [HX.out])))
  have HDB2 := Lib.hid (HDM.out.keep hb2)
  have HA2 := Lib.hid (HA0.out.keep hb2)
  have HM2 := Lib.hid ((HM.out.keep hb00).keep hb2)
  have hs2 := hb2.size
  have hbw := below_step hb00 hb2
  have HROW : Hid (∀ k, k < X → ∃ b, A1 = some ⟨b, 0, none⟩ ∧ wM.heap.size ≤ b ∧ b < w2.heap.size ∧ ∃ b' c', w2.cell? ⟨b, k, none⟩ = some (.slice (some ⟨b', 0, none⟩) (xss.getD k []).length c') ∧ wM.heap.size ≤ b' ∧ b' < w2.heap.size ∧ ∀ j, j < (xss.getD k []).length → w2.cell? ⟨b', j, none⟩ = some (.int .i64 ((xss.getD k []).getD j 0))) := Lib.hid hro1
  have hsM := HSZ2.out
  have HSM : Hid (wM.heap.size = w.heap.size + 2) := Lib.hid hsM
  clear ho1 hro1 hsM
  go_loopw [4, 6, 7, 8] (fun n i _ _ wr => ∃ k : Nat, k ≤ X ∧ i = .int .i64 k ∧ n = .int .i64 (flT xss k).length ∧ Below w.heap.size w wr ∧ Kp w2 wr (w.heap.size + 1) ∧ Arr wr (w.heap.size + 1) 3 nm (iv (lbK pM q (flT xss k).length))) (fun _ i _ _ _ => X - (intOf i).toNat)
  case atStart => exact ⟨0, by omega, rfl, rfl, hbw, Kp.refl _ _, HA2.out⟩
  case round =>
    obtain ⟨k, hk, rfl, rfl, hbr, hkp, har⟩ := hrel
    have hk0 : (0 : Int) ≤ (k : Int) := Int.natCast_nonneg _
    have HKP := Lib.hid hkp
    have HAR := Lib.hid har
    clear hkp har
    have hfe := HFE.out k
    by_cases hlt : k < X
    · obtain ⟨b, rfl, hbg, hb, b', c', hcel, hbg', hb', hcr⟩ := HROW.out k hlt
      have HCR := Lib.hid hcr
      have HCEL := Lib.hid hcel
      have hfs := HFS.out k hlt
      have hfe1 := HFE.out (k + 1)
      have hfl := fun j hj => HFL.out k j hlt hj
      obtain ⟨rl, hrl⟩ : ∃ rl, (xss.getD k []).length = rl := ⟨_, rfl⟩
      obtain ⟨ps, hps⟩ : ∃ ps, (flT xss k).length = ps := ⟨_, rfl⟩
      rw [hrl] at hfs HCR HCEL
      simp only [hrl] at hfl
      rw [hps] at hfs hfe HAR
      simp only [hps] at hfl ⊢
      have HFS2 := Lib.hid hfs
      have HFL2 := Lib.hid hfl
      have hrlL : ps + rl ≤ 128 := by omega
      have hk1 : (k : Int) < (X : Int) := by omega
      have HPL : Hid (ps + rl ≤ L) := Lib.hid (by omega)
      obtain ⟨wO, hwO⟩ : ∃ wO : World, wO = wr := ⟨_, rfl⟩
      subst hwO
      clear hcr hcel hfs hfe1 hfl hrl hps hfe
      go_wp2
      go_loopw [4, 7, 8] (fun n j _ wr => ∃ i : Nat, i ≤ rl ∧ j = .int .i64 i ∧ n = .int .i64 (ps + i : Nat) ∧ Below w.heap.size w wr ∧ Kp w2 wr (w.heap.size + 1) ∧ Arr wr (w.heap.size + 1) 3 nm (iv (lbK pM q (ps + i)))) (fun _ j _ _ => rl - (intOf j).toNat)
      case atStart => exact ⟨0, by omega, rfl, rfl, hbr, HKP.out, HAR.out⟩
      case round =>
        obtain ⟨i, hi, rfl, rfl, hbi, hkp, har⟩ := hrel
        have hi0 : (0 : Int) ≤ (i : Int) := Int.natCast_nonneg _
        have hsM := HSM.out
        have ccel : wr.cell? ⟨b, k, none⟩ = some (.slice (some ⟨b', 0, none⟩) rl c') := by rw [hkp.cell b _ hb (by omega)]; exact HCEL.out
        obtain ⟨ps1, hps1⟩ : ∃ ps1, ps + i = ps1 := ⟨_, rfl⟩
        by_cases hil : i < rl
        · obtain ⟨x, hx, hxn⟩ := HSQ.out (ps + i) (by have := HPL.out; omega)
          have hfx := HFL2.out i hil
          have hcx := HCR.out i hil
          rw [← hfx, hx] at hcx
          obtain ⟨bB, oB, e2, hbB, hcB⟩ := HM.out.2 (by omega)
          subst e2
          have hyn := (HMM.out x hxn).2
          have hy := (HMM.out x hxn).1
          have c1 : wr.cell? ⟨b', i, none⟩ = some (.int .i64 (x : Nat)) := by rw [hkp.cell b' _ hb' (by omega), hcx]
          have c2 : wr.cell? ⟨w.heap.size, 1, none⟩ = some (.slice (some ⟨bB, oB, none⟩) nm cm) := by rw [hkp.cell _ _ (by omega) (by omega)]; exact HDB2.out.2.1
          have c3 : wr.cell? ⟨bB, oB + x, none⟩ = some (.int .i64 (pM x : Nat)) := by
            rw [hkp.cell bB _ (by omega) (by omega), (hb2.cell (p := ⟨bB, oB + x, none⟩) (show bB < wM.heap.size by omega)), (hb00.cell (p := ⟨bB, oB + x, none⟩) hbB), hcB x hxn, hy]
          rw [hps1] at har hx
          have f1 := har.frozen x
          have f2 := har.frozen (pM x)
          have k1 := har.cell x hxn
          have k2 := har.cell (pM x) hyn
          have har1 := har.seti x (ps1 + 1)
          rw [show ((ps1 + 1 : Nat) : Int) = (ps1 : Int) + 1 by omega] at har1
          have k3 := har1.cell (pM x) hyn
          have f3 := har1.frozen (pM x)
          have HKI := Lib.hid hkp
          have HAI := Lib.hid har
          have HXX := Lib.hid hx
          have HPS := Lib.hid hps1
          obtain ⟨y, hyy⟩ : ∃ y, pM x = y := ⟨_, rfl⟩
          rw [hyy] at hyn c3 f2 k2 k3 f3
          have HY := Lib.hid hyy
          have hx0 : (0 : Int) ≤ (x : Int) := Int.natCast_nonneg _
          have hx1 : (x : Int) < (nm : Int) := by omega
          have hy0 : (0 : Int) ≤ (y : Int) := Int.natCast_nonneg _
          have hy1 : (y : Int) < (nm : Int) := by omega
          have hi1 : (i : Int) < (rl : Int) := by omega
          have hpw : IntKind.i64.wrap ((ps1 : Int) + 1) = (ps1 : Int) + 1 := IntWalk.i64_in _ (by omega)
          simp only [hps1]
          clear hcx hcB hkp har hx hyy hy hfx har1 hsM hps1
          go_wp2
          go_roundw
          case rel => exact ⟨i + 1, by omega, by go_num, by have := HPS.out; rw [show ps + (i + 1) = ps1 + 1 by omega]; go_num, below_set (below_set hbi (by omega) _) (by omega) _, (HKI.out.set _ _).set _ _, by
            have h1 := (HAI.out.seti x (ps1 + 1)).seti y (ps1 + 1)
            have e : lbK pM q (ps1 + 1) = upd (upd (lbK pM q ps1) x (ps1 + 1)) y (ps1 + 1) := by
              show upd (upd (lbK pM q ps1) (q.getD ps1 0).toNat (ps1 + 1)) (pM (q.getD ps1 0).toNat) (ps1 + 1) = _
              rw [HXX.out, Int.toNat_natCast, HY.out]
            rw [show ps + (i + 1) = ps1 + 1 by have := HPS.out; omega, e]
            exact h1⟩
          case measure => simp [intOf]; omega
        · obtain rfl : i = rl := by omega
          have HKI := Lib.hid hkp
          have HAI := Lib.hid har
          clear hkp har hps1 hsM
          go_wp2
          go_roundw
          case rel => exact ⟨k + 1, by omega, by go_num, by rw [HFS2.out], hbi, HKI.out, by rw [HFS2.out]; exact HAI.out⟩
          case measure => simp [intOf]; omega
    · obtain rfl : k = X := by omega
      have HLL : Hid ((flT xss k).length = L) := Lib.hid HFA.out
      go_wp2
      go_ret
      exact ⟨_, rfl, by have := HAR.out; rw [HLL.out, HLB.out] at this; exact this, by omega, hbr⟩

end Go.Proofs.YtebliaclleplgaaDoor

/- Walks of the reference: Decimal, Text; the law PlanarFormats. -/
namespace Go.Proofs.YtebliaclleplgaaDoor
open Go.ChangeShapes Go.WideShapes Go.ChangeAt Go.RowKit Go.Joins

theorem one_byte (w : World) (x : Nat) (_hx : x < 256) : (convert 39 9 (.slice (some ⟨w.heap.size, 0, none⟩) 1 1)).run Tryd.prog (w.alloc (.cells #[.int .u8 (x : Nat)] 5)) = .ok (.string ⟨#[UInt8.ofNat x]⟩) (w.alloc (.cells #[.int .u8 (x : Nat)] 5)) := by
  have := run_convert_bytes_arg (P := Tryd.prog) (w.alloc (.cells #[.int .u8 (x : Nat)] 5)) 39 5 Tryd.underlying39 Tryd.underlying5 w.heap.size 0 1 1 [(x : Int)] rfl (fun i hi => by
    obtain rfl : i = 0 := by omega
    rw [World.cell?_alloc_at _ _ _ _ rfl]; rfl) 9 Tryd.underlying9
  rw [this]
  have e : strOfNums [(x : Int)] = ⟨#[UInt8.ofNat x]⟩ := by simp [strOfNums]
  rw [e]

set_option maxHeartbeats 1600000 in
set_option maxRecDepth 100000 in
theorem pdecimal_nn (n : Nat) (hn : n ≤ 1000000) : ∀ w : World, Calls Tryd.prog 34 #[.int .i64 (n : Nat)] w fun e w' => ∃ b : ByteArray, e = .returned (.string b) ∧ b.data.toList = Lib.decDigits n ∧ Below w.heap.size w w' := by
  induction n using Nat.strongRecOn with
  | _ n ih =>
    intro w
    obtain ⟨r, hr⟩ : ∃ r, r = n % 10 := ⟨_, rfl⟩
    obtain ⟨x, hx⟩ : ∃ x, 48 + r = x := ⟨_, rfl⟩
    have hr10 : r < 10 := by omega
    have h0 : (0 : Int) ≤ (n : Int) := Int.natCast_nonneg _
    have h2 : (n : Int) % 10 = (r : Int) := by omega
    have m1 : IntKind.i64.wrap (48 + (r : Int)) = (x : Int) := by rw [IntWalk.i64_in _ (by omega)]; omega
    have m2 : IntKind.u8.wrap (x : Int) = (x : Int) := by rw [IntKind.wrap_u8']; omega
    have r0 : (0 : Int) ≤ (r : Int) := Int.natCast_nonneg _
    have r1 : (r : Int) < 10 := by omega
    have hcv := one_byte w x (by omega)
    have hb0 := below_alloc w (.cells #[.int .u8 (x : Nat)] 5)
    by_cases h10 : n < 10
    · have hdd : Lib.decDigits n = [UInt8.ofNat x] := by rw [Lib.decDigits_one h10, ← hx, hr, Nat.mod_eq_of_lt h10]
      have h1 : (n : Int) < 10 := by omega
      have HDD := Lib.hid hdd
      clear hdd ih hn hr hx
      go_enter Tryd.func34, Tryd.ntmps34
      go_wp2
      go_ret
      exact ⟨_, rfl, by rw [HDD.out], hb0⟩
    · obtain ⟨q, hq⟩ : ∃ q, q = n / 10 := ⟨_, rfl⟩
      have hdd : Lib.decDigits n = Lib.decDigits q ++ [UInt8.ofNat x] := by
        rw [Lib.decDigits, dif_neg h10, hq, ← hx, hr]
      have h1 : (10 : Int) ≤ (n : Int) := by omega
      have hn1 : (n : Int) ≤ 1000000 := by omega
      have h3 : (n : Int) / 10 = (q : Int) := by omega
      have HDD := Lib.hid hdd
      have CQ := fun W => Lib.hid (ih q (by omega) (by omega) W)
      have HQ : Hid (∀ b : ByteArray, b.data.toList = Lib.decDigits q → b.size ≤ 21) := Lib.hid fun b hb => by
        rw [pn_size_of hb]
        have := Lib.itoa_length_le (q : Int) (by omega) (by omega)
        rwa [Lib.itoa_nonneg] at this
      clear hdd hq hr hx ih hn
      go_enter Tryd.func34, Tryd.ntmps34
      go_wp2_with (go_at_call 34; ((with_reducible refine (CQ _).out.mono ?_); rintro e w1 ⟨b, rfl, hb, hb1⟩; have hbs := HQ.out b hb; have HB := Lib.hid hb; clear hb))
      go_ret
      exact ⟨_, rfl, by rw [HDD.out, pn_data_cat, HB.out], below_step hb0 hb1⟩

set_option maxHeartbeats 6400000 in
set_option maxRecDepth 100000 in
theorem rtext_any (A B : Option Addr) (ns cs nm cm : Nat) (lp : Int) (s m : List Int) (w : World) (h : DV w A ns B nm s m) (hv : validB s m lp = true) :
    Calls Tryd.prog 12 #[dval A ns cs B nm cm lp] w fun e w' => ∃ b : ByteArray, e = .returned (.string b) ∧ b.data.toList = pnT s (lbM s m lp) lp ∧ Below w.heap.size w w' := by
  have F := bk_facts hv
  have hls := h.hs.1
  have hlm := h.hm.1
  have hl4 := F.lm
  have h64 := F.le
  obtain ⟨_, _, l3, l4⟩ := limB_out F.lim
  have hsl := seq_len hv
  have hL1000 : ∀ j, lbM s m lp j < 1000 := fun j => by
    have := lbK_le (matesOf m) (seqM s m lp) (seqM s m lp).length j
    unfold lbM; omega
  have e4 : nm = 4 * ns := by omega
  have hnm : nm ≤ 256 := by omega
  have hd := DB.new w A ns cs B nm cm lp
  have hb0 := below_alloc w (dbox A ns cs B nm cm lp)
  have HD0 := Lib.hid hd
  have HDV := Lib.hid (h.keep hb0)
  have CL : ∀ W, DV W A ns B nm s m → Hid (Calls Tryd.prog 33 #[dval A ns cs B nm cm lp] W fun e w' => ∃ g, e = .returned (.slice (some ⟨g, 0, none⟩) nm nm) ∧ Arr w' g 3 nm (iv (lbM s m lp)) ∧ W.heap.size ≤ g ∧ Below W.heap.size W w') := fun W h => rlabels_any A B ns cs nm cm lp s m W h hv
  have HNM := Lib.hid e4
  have HS := Lib.hid h.hs
  obtain ⟨lpn, rfl⟩ := Int.eq_ofNat_of_zero_le l3
  have hlpn : lpn ≤ 64 := by omega
  obtain ⟨L, hL⟩ : ∃ L, lbM s m (lpn : Int) = L := ⟨_, rfl⟩
  simp only [hL] at CL hL1000 ⊢
  have HROWS : Hid (∀ k, (rowsT s L k).length ≤ 18 * k) := Lib.hid (rowsT_len s L hL1000)
  have HLB4 : Hid (∀ c k, (lb4 L c k).length ≤ 4 * k) := Lib.hid fun c k => lb4_len L c hL1000 k
  have HL := Lib.hid hL1000
  have HFIN : Hid (pnT s L (lpn : Nat) = rowsT s L ns ++ (lpT ++ Lib.decDigits lpn ++ [10])) := Lib.hid (by unfold pnT; rw [hls, Int.toNat_natCast])
  have HZ : Hid (∀ (c : Nat) (b : ByteArray), c < 1000 → b.data.toList = Lib.decDigits c → b.size ≤ 3) := Lib.hid fun c b hc hb => by rw [pn_size_of hb]; exact dec_three c hc
  have hns : ns ≤ 64 := by omega
  clear F hl4 h64 l3 l4 hsl hlm h hv hL hL1000 e4 hls
  obtain ⟨d0, d1, d2, dlt⟩ := hd
  unfold dbox at *
  go_enter Tryd.func12, Tryd.ntmps12
  go_wp2_with ((go_at_call 33; ((with_reducible refine (CL _ HDV.out).out.mono ?_); rintro e w2 ⟨gL, rfl, har, hgL, hb2⟩; have HD2 := Lib.hid (HD0.out.keep hb2))))
  have hb02 := below_step hb0 hb2
  have HS2 := Lib.hid (HS.out.keep hb02)
  have HAR := Lib.hid har
  clear har d0 d1 d2 dlt
  go_loopw [4, 5, 6] (fun v i _ wr => ∃ (k : Nat) (b : ByteArray), k ≤ ns ∧ i = .int .i64 k ∧ v = .string b ∧ b.data.toList = rowsT s L k ∧ Below w2.heap.size w2 wr) (fun _ i _ _ => ns - (intOf i).toNat)
  case atStart => exact ⟨0, ⟨#[]⟩, by omega, rfl, rfl, rfl, Below.refl _ _⟩
  case round =>
    obtain ⟨k, b, hk, rfl, rfl, hbt, hbr⟩ := hrel
    have hk0 : (0 : Int) ≤ (k : Int) := Int.natCast_nonneg _
    have hrl := HROWS.out k
    have hbs : b.size ≤ 2000 := by rw [pn_size_of hbt]; omega
    have HBT := Lib.hid hbt
    have hgL2 := HAR.out.lt
    obtain ⟨p0, p1, p2, plt⟩ := HD2.out.keep hbr
    clear hbt
    by_cases hlt : k < ns
    · obtain ⟨bA, oA, rfl, hbA, hcA⟩ := HS2.out.2 (by omega)
      have c0 := (hbr.cell (p := ⟨bA, oA + k, none⟩) hbA).trans (hcA k hlt)
      obtain ⟨sg, hsg⟩ : ∃ sg, s.getD k 0 = sg := ⟨_, rfl⟩
      rw [hsg] at c0
      have HSG := Lib.hid hsg
      have hk1 : (k : Int) < (ns : Int) := by omega
      obtain ⟨c4, hc4⟩ : ∃ c4, 4 * k = c4 := ⟨_, rfl⟩
      have HC4 := Lib.hid hc4
      have m1 : IntKind.i64.wrap (4 * (k : Int)) = (c4 : Int) := by rw [IntWalk.i64_in _ (by omega)]; omega
      have hc4n : c4 + 4 ≤ nm := by have := HNM.out; omega
      have hrs := rowsT_succ s L k
      unfold rowT at hrs
      rw [hsg] at hrs
      have HRS := Lib.hid hrs
      obtain ⟨T, hT⟩ : ∃ T, rowsT s L k = T := ⟨_, rfl⟩
      rw [hT] at hrl HBT HRS
      obtain ⟨wO, hwO⟩ : ∃ wO : World, wO = wr := ⟨_, rfl⟩
      subst hwO
      clear hcA hsg hc4 hrs hT
      obtain ⟨b1, hb1, hsb1, HB1⟩ : ∃ b1 : ByteArray, (sg = 1 → b1 = b ++ ⟨#[43]⟩) ∧ (sg ≠ 1 → b1 = b ++ ⟨#[45]⟩) ∧ b1.data.toList = T ++ sgT sg := by
        by_cases h1 : sg = 1
        · exact ⟨_, fun _ => rfl, fun q => absurd h1 q, by rw [pn_data_cat, HBT.out]; unfold sgT; rw [if_pos h1]⟩
        · exact ⟨_, fun q => absurd q h1, fun _ => rfl, by rw [pn_data_cat, HBT.out]; unfold sgT; rw [if_neg h1]⟩
      have hb1s : b1.size ≤ 2001 := by rw [pn_size_of HB1, List.length_append]; show T.length + 1 ≤ 2001; omega
      have HB1H := Lib.hid HB1
      have ROUND : ∀ K : Prop, K → K := fun _ h => h
      clear HB1 ROUND
      by_cases h1 : sg = 1
      · have e1 := hb1 h1
        subst h1
        subst e1
        clear hb1 hsb1
        go_wp2
        go_loopw [4, 6] (fun v j wr => ∃ (q : Nat) (b2 : ByteArray), q ≤ 4 ∧ j = .int .i64 q ∧ v = .string b2 ∧ b2.data.toList = T ++ sgT 1 ++ lb4 L k q ∧ Below w2.heap.size w2 wr) (fun _ j _ => 4 - (intOf j).toNat)
        case atStart => exact ⟨0, _, by omega, rfl, rfl, by
          rw [HB1H.out]; show _ = T ++ sgT 1 ++ []; rw [List.append_nil], hbr⟩
        case round =>
          obtain ⟨q, b2, hq, rfl, rfl, hb2t, hbq⟩ := hrel
          have hq0 : (0 : Int) ≤ (q : Int) := Int.natCast_nonneg _
          have hll := HLB4.out k q
          have hb2s : b2.size ≤ 2100 := by rw [pn_size_of hb2t, List.length_append, List.length_append]; show T.length + 1 + _ ≤ 2100; omega
          have HB2 := Lib.hid hb2t
          clear hb2t hll
          by_cases hq4 : q < 4
          · have hcL : wr.cell? ⟨gL, c4 + q, none⟩ = some (.int .i64 ((L (c4 + q) : Nat) : Int)) := (HAR.out.keep (hbq : Below w2.heap.size w2 wr)).cell (c4 + q) (by omega)
            have hL1 := HL.out (c4 + q)
            have hls := lb4_succ L k q
            rw [HC4.out] at hls
            obtain ⟨x, hx⟩ : ∃ x, L (c4 + q) = x := ⟨_, rfl⟩
            rw [hx] at hcL hL1 hls
            have HLS := Lib.hid hls
            have CD := Lib.hid (pdecimal_nn x (by omega) wr)
            obtain ⟨p, hp⟩ : ∃ p, c4 + q = p := ⟨_, rfl⟩
            rw [hp] at hcL
            have m2 : IntKind.i64.wrap ((c4 : Int) + (q : Int)) = (p : Int) := by rw [IntWalk.i64_in _ (by omega)]; omega
            have p0' : (0 : Int) ≤ (p : Int) := Int.natCast_nonneg _
            have p1' : (p : Int) < (nm : Int) := by omega
            have hq1 : (q : Int) < 4 := by omega
            have hZ := Lib.hid (fun b => HZ.out x b hL1)
            clear hx hls hp
            go_wp2_with (go_at_call 34; ((with_reducible refine CD.out.mono ?_); rintro e w5 ⟨b5, rfl, hb5t, hb5⟩; have hb5s := hZ.out b5 hb5t; have HB5 := Lib.hid hb5t; clear hb5t))
            go_roundw
            case rel => exact ⟨q + 1, _, by omega, by go_num, rfl, by
              rw [pn_data_cat, pn_data_cat, HB2.out, HB5.out, HLS.out]; simp, hbq.trans (hb5.mono hbq.size)⟩
            case measure => simp [intOf]; omega
          · obtain rfl : q = 4 := by omega
            go_wp2
            go_roundw
            case rel => exact ⟨k + 1, _, by omega, by go_num, rfl, by
              rw [pn_data_cat, HB2.out, HRS.out]; simp, hbq⟩
            case measure => simp [intOf]; omega
      · have e1 := hsb1 h1
        have h1' : (sg == 1) = false := by simpa using h1
        subst e1
        clear hb1 hsb1 h1
        go_wp2
        go_loopw [4, 6] (fun v j wr => ∃ (q : Nat) (b2 : ByteArray), q ≤ 4 ∧ j = .int .i64 q ∧ v = .string b2 ∧ b2.data.toList = T ++ sgT sg ++ lb4 L k q ∧ Below w2.heap.size w2 wr) (fun _ j _ => 4 - (intOf j).toNat)
        case atStart => exact ⟨0, _, by omega, rfl, rfl, by
          rw [HB1H.out]; show _ = T ++ sgT sg ++ []; rw [List.append_nil], hbr⟩
        case round =>
          obtain ⟨q, b2, hq, rfl, rfl, hb2t, hbq⟩ := hrel
          have hq0 : (0 : Int) ≤ (q : Int) := Int.natCast_nonneg _
          have hll := HLB4.out k q
          have hb2s : b2.size ≤ 2100 := by rw [pn_size_of hb2t, List.length_append, List.length_append]; show T.length + 1 + _ ≤ 2100; omega
          have HB2 := Lib.hid hb2t
          clear hb2t hll
          by_cases hq4 : q < 4
          · have hcL : wr.cell? ⟨gL, c4 + q, none⟩ = some (.int .i64 ((L (c4 + q) : Nat) : Int)) := (HAR.out.keep (hbq : Below w2.heap.size w2 wr)).cell (c4 + q) (by omega)
            have hL1 := HL.out (c4 + q)
            have hls := lb4_succ L k q
            rw [HC4.out] at hls
            obtain ⟨x, hx⟩ : ∃ x, L (c4 + q) = x := ⟨_, rfl⟩
            rw [hx] at hcL hL1 hls
            have HLS := Lib.hid hls
            have CD := Lib.hid (pdecimal_nn x (by omega) wr)
            obtain ⟨p, hp⟩ : ∃ p, c4 + q = p := ⟨_, rfl⟩
            rw [hp] at hcL
            have m2 : IntKind.i64.wrap ((c4 : Int) + (q : Int)) = (p : Int) := by rw [IntWalk.i64_in _ (by omega)]; omega
            have p0' : (0 : Int) ≤ (p : Int) := Int.natCast_nonneg _
            have p1' : (p : Int) < (nm : Int) := by omega
            have hq1 : (q : Int) < 4 := by omega
            have hZ := Lib.hid (fun b => HZ.out x b hL1)
            clear hx hls hp
            go_wp2_with (go_at_call 34; ((with_reducible refine CD.out.mono ?_); rintro e w5 ⟨b5, rfl, hb5t, hb5⟩; have hb5s := hZ.out b5 hb5t; have HB5 := Lib.hid hb5t; clear hb5t))
            go_roundw
            case rel => exact ⟨q + 1, _, by omega, by go_num, rfl, by
              rw [pn_data_cat, pn_data_cat, HB2.out, HB5.out, HLS.out]; simp, hbq.trans (hb5.mono hbq.size)⟩
            case measure => simp [intOf]; omega
          · obtain rfl : q = 4 := by omega
            go_wp2
            go_roundw
            case rel => exact ⟨k + 1, _, by omega, by go_num, rfl, by
              rw [pn_data_cat, HB2.out, HRS.out]; simp, hbq⟩
            case measure => simp [intOf]; omega
    · obtain rfl : k = ns := by omega
      have CD := Lib.hid (pdecimal_nn lpn (by omega) wr)
      have hZ := Lib.hid (fun b => HZ.out lpn b (by omega))
      go_wp2_with (go_at_call 34; ((with_reducible refine CD.out.mono ?_); rintro e w5 ⟨b5, rfl, hb5t, hb5⟩; have hb5s := hZ.out b5 hb5t; have HB5 := Lib.hid hb5t; clear hb5t))
      go_ret
      exact ⟨_, rfl, by rw [pn_data_cat, pn_data_cat, pn_data_cat, HBT.out, HB5.out, HFIN.out]; simp [lpT], hb02.trans ((hbr.trans (hb5.mono hbr.size)).mono hb02.size)⟩

end Go.Proofs.YtebliaclleplgaaDoor
