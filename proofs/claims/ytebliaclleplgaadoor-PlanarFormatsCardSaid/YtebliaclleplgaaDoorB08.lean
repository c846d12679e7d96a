import Derived.Test.YtebliaclleplgaaDoorB07
import Derived.Test.YtebliaclleplgaaDoorB04
import Derived.Test.YtebliaclleplgaaDoorB03
import Derived.Test.YtebliaclleplgaaDoorB02
import Derived.Lib.AppendZerosOnto
import Derived.Laws.AppendOwn
/- Walk: Encode. -/
namespace Go.Proofs.YtebliaclleplgaaDoor
open Go.ChangeShapes Go.WideShapes Go.ChangeAt Go.RowKit Go.Joins

abbrev bys (xs : List Int) : List Value := xs.map (Value.int .u8)
/-- A slice of bytes that reads as xs. -/
def RB (w : World) (A : Option Addr) (n : Nat) (xs : List Int) : Prop :=
  xs.length = n ∧ (0 < n → ∃ b off, A = some ⟨b, off, none⟩ ∧ b < w.heap.size ∧ ∀ j, j < n → w.cell? ⟨b, off + j, none⟩ = some (.int .u8 (xs.getD j 0)))
theorem RB.keep {w w' : World} {A : Option Addr} {n : Nat} {xs : List Int} (h : RB w A n xs) (hb : Below w.heap.size w w') : RB w' A n xs :=
  ⟨h.1, fun hn => by
    obtain ⟨b, off, e, hlt, hc⟩ := h.2 hn
    exact ⟨b, off, e, Nat.lt_of_lt_of_le hlt hb.size, fun j hj => (hb.cell (p := ⟨b, off + j, none⟩) hlt).trans (hc j hj)⟩⟩
theorem rb_own {w : World} {B n c : Nat} {A : Option Addr} {xs : List Int} (h : ownRow w B 5 (.slice A n c) (bys xs)) : RB w A xs.length xs ∧ n = xs.length := by
  rcases id h.2 with ⟨h1, h2⟩ | ⟨g, cap, cur, h1, hg, hh, hcap, _⟩
  · have hl : xs.length = 0 := by simpa using h2
    injection h1 with e1 e2 e3
    exact ⟨⟨rfl, fun hn => by omega⟩, by omega⟩
  · injection h1 with e1 e2 e3
    subst e1
    have hl : (bys xs).length = xs.length := by simp
    refine ⟨⟨rfl, fun _ => ⟨g, 0, rfl, (World.ownsRow.lt h g rfl).2, fun j hj => ?_⟩⟩, by omega⟩
    have h2 := h.cells (g := g) rfl j (.int .u8 (xs.getD j 0)) (by simp [List.getD, hj])
    have ha : (⟨g, 0, none⟩ : Addr).add j = ⟨g, 0 + j, none⟩ := by unfold Addr.add; split <;> simp_all
    rwa [ha] at h2
theorem enL_len (s : List Int) (pM : Nat → Nat) (lp : Int) (k : Nat) : (enL s pM lp k).length ≤ 2 + (s.length + 7) / 8 + k := by
  unfold enL
  have h1 := btL_len s s.length
  have h2 := mtL_le s pM k
  simp only [List.length_cons, List.length_append]
  omega

set_option maxHeartbeats 6400000 in
set_option maxRecDepth 100000 in
theorem encode_yes (A B : Option Addr) (ns cs nm cm : Nat) (lp : Int) (s m : List Int) (w : World) (h : DV w A ns B nm s m) (hv : validB s m lp = true) :
    Calls Tryd.prog 19 #[dval A ns cs B nm cm lp] w fun e w' => ∃ A' c, e = .returned (.tuple #[.slice A' (enL s (matesOf m) lp nm).length c, .int .i64 0]) ∧ RB w' A' (enL s (matesOf m) lp nm).length (enL s (matesOf m) lp nm) ∧ Below w.heap.size w w' := by
  have F := bk_facts hv
  have hls := h.hs.1
  have hlm := h.hm.1
  have hl4 := F.lm
  have h64 := F.le
  obtain ⟨_, _, l3, l4⟩ := limB_out F.lim
  have hmm : ∀ x, x < nm → m.getD x 0 = (matesOf m x : Int) ∧ matesOf m x < nm := matesOf_mates F.pr hlm
  have hns : ns ≤ 64 := by omega
  have hnm : nm ≤ 256 := by omega
  have e4 : nm = 4 * ns := by omega
  have hd := DB.new w A ns cs B nm cm lp
  have hb0 := below_alloc w (dbox A ns cs B nm cm lp)
  have HD0 := Lib.hid hd
  have HDV := Lib.hid (h.keep hb0)
  have CV : ∀ W, DV W A ns B nm s m → Hid (Calls Tryd.prog 13 #[dval A ns cs B nm cm lp] W fun e w' => e = .returned (.bool true) ∧ Below W.heap.size W w') := fun W h => h.valid cs cm lp true hv
  obtain ⟨lpn, rfl⟩ := Int.eq_ofNat_of_zero_le l3
  have hlpn : lpn ≤ 64 := by omega
  obtain ⟨pM, hpM⟩ : ∃ pM, matesOf m = pM := ⟨_, rfl⟩
  rw [hpM] at hmm ⊢
  have HMM := Lib.hid hmm
  have HE4 := Lib.hid e4
  have hE0 : enL s pM (lpn : Nat) 0 = [(ns : Int), (lpn : Nat)] ++ btL s ns := by
    have : mtL s pM 0 = [] := rfl
    unfold enL; rw [this, hls]; simp
  have HE0 := Lib.hid hE0
  have HEL : Hid (∀ k, k ≤ nm → (enL s pM (lpn : Nat) k).length ≤ 1000) := Lib.hid fun k hk => by have := enL_len s pM (lpn : Nat) k; omega
  have HES : Hid (∀ k, enL s pM (lpn : Nat) (k + 1) = if outB s k = true then enL s pM (lpn : Nat) k ++ [(pM k : Int)] else enL s pM (lpn : Nat) k) := Lib.hid (enL_succ s pM _)
  have w1n : IntKind.u8.wrap (ns : Int) = (ns : Int) := by rw [IntKind.wrap_u8']; omega
  have w1l : IntKind.u8.wrap (lpn : Int) = (lpn : Int) := by rw [IntKind.wrap_u8']; omega
  clear F hl4 h64 l3 l4 hls hlm h hv e4 hmm hE0 hpM
  obtain ⟨d0, d1, d2, dlt⟩ := hd
  unfold dbox at *
  go_enter Tryd.func19, Tryd.ntmps19
  go_upto_region 4 with ((go_at_call 13; ((with_reducible refine (CV _ HDV.out).out.mono ?_); rintro e w1 ⟨rfl, hb1⟩; have HD1 := Lib.hid (HD0.out.keep hb1); obtain ⟨x0, x1, x2, xlt⟩ := HD1.out; have HDV1 := Lib.hid (HDV.out.keep hb1))))
  clear d0 d1 d2 dlt
  have hbB := below_alloc w1 (.cells #[.int .u8 (ns : Int), .int .u8 (lpn : Int)] 5)
  have HO0 : Hid (ownRow (w1.alloc (.cells #[.int .u8 (ns : Int), .int .u8 (lpn : Int)] 5)) w1.heap.size 5 (.slice (some ⟨w1.heap.size, 0, none⟩) 2 2) (bys [(ns : Int), (lpn : Nat)])) := Lib.hid (World.ownsRow_lit w1 #[.int .u8 (ns : Int), .int .u8 (lpn : Int)] 2 (Nat.le_refl _) (by simp [maxLen]) rfl)
  have HDB := Lib.hid (HD1.out.keep hbB)
  have HSB := Lib.hid (HDV1.out.hs.keep hbB)
  have hb01 := below_step hb0 hb1
  go_upto_region 5 with fail
  have HSZ : Hid (w1.heap.size ≤ (w1.alloc (.cells #[.int .u8 (ns : Int), .int .u8 (lpn : Int)] 5)).heap.size) := Lib.hid (by simp)
  generalize w1.alloc (.cells #[.int .u8 (ns : Int), .int .u8 (lpn : Int)] 5) = wB at *
  obtain ⟨y0, y1, y2, ylt⟩ := HDB.out
  have CB := Lib.hid (bitsOf_any A ns cs s wB HSB.out hns)
  obtain ⟨i0, hi, hz0, hz1, hz2⟩ := info_parts Tryd.infoByteP
  obtain ⟨nb, hnb⟩ : ∃ nb, (ns + 7) / 8 = nb := ⟨_, rfl⟩
  rw [hnb] at CB
  have HNB := Lib.hid hnb
  have hnb9 : nb ≤ 8 := by omega
  clear hnb x0 x1 x2 xlt
  go_wp2_with (first
    | (at_builtin
       refine wpList_append_own _ rfl (.tmp 20) (.tmp 23) 39 rfl w1.heap.size 5 i0 (.int .u8 0) 1 1 Tryd.underlying39 hi hz0 hz1 hz2 rfl (by decide) _ _ (bys [(ns : Int), (lpn : Nat)]) rfl (ownRow.keep HO0.out hb2) ⟨wB.heap.size, 0, none⟩ nb nb (bys (btL s ns)) rfl (by simp [btL_len, HNB.out]) ?c1 ?c2 ?c3 ?c4 ?c5 ?_
       case c1 =>
         (intro j u hj
          have hjl : j < nb := by
            have := (List.getElem?_eq_some_iff.1 hj).1
            rw [List.length_map, btL_len, HNB.out] at this
            exact this
          have h1 := har2.cell j hjl
          have ha : (⟨wB.heap.size, 0, none⟩ : Addr).add j = ⟨wB.heap.size, j, none⟩ := by unfold Addr.add; split <;> simp_all
          rw [ha, h1]
          have hj2 := hj
          simp [btL, HNB.out, hjl] at hj2
          rw [← hj2])
       case c2 => (intro u hu; obtain ⟨x, _, rfl⟩ := List.mem_map.1 hu; rfl)
       case c3 => (unfold maxLen; simp; omega)
       case c4 => (simp; omega)
       case c5 => (have := hb2.size; have := HSZ.out; omega)
       intro v3 w3 hown3 hg3 _
       have hb13 : Below w1.heap.size w1 w3 := (hbB.trans (hb2.mono HSZ.out)).grown hg3 (by have := hb2.size; have := HSZ.out; omega) (fun q hq => (World.ownsRow.lt (ownRow.keep HO0.out hb2) q hq).1)
       obtain ⟨z0, z1, z2, zlt⟩ := HD1.out.keep hb13)
    | (go_at_call 50; ((with_reducible refine CB.out.mono ?_); rintro e w2 ⟨rfl, har2, hb2⟩)))
  have HO3 : Hid (ownRow w3 w1.heap.size 5 v3 (bys (enL s pM (lpn : Nat) 0))) := Lib.hid (by
    rw [HE0.out]
    have e1 : bys ([(ns : Int), (lpn : Nat)] ++ btL s ns) = bys [(ns : Int), (lpn : Nat)] ++ bys (btL s ns) := by simp
    have e2 : (bys ([(ns : Int), (lpn : Nat)] ++ btL s ns)).length = 2 + nb := by simp [btL_len, HNB.out]; omega
    unfold ownRow
    rw [e2, e1]; exact hown3)
  clear hown3 hg3 har2 y0 y1 y2 ylt
  have hs13 := hb13.size
  have HM1 := Lib.hid HDV1.out.hm
  have HS1 := Lib.hid HDV1.out.hs
  have HD3 := Lib.hid HD1.out
  go_loopw [5, 6, 7, 28] (fun v _ _ i wr => ∃ k : Nat, k ≤ nm ∧ i = .int .i64 k ∧ Below w1.heap.size w1 wr ∧ ownRow wr w1.heap.size 5 v (bys (enL s pM (lpn : Nat) k))) (fun _ _ _ i _ => nm - (intOf i).toNat)
  case atStart => exact ⟨0, by omega, rfl, hb13, HO3.out⟩
  case round =>
    obtain ⟨k, hk, rfl, hbr, hor⟩ := hrel
    have hk0 : (0 : Int) ≤ (k : Int) := Int.natCast_nonneg _
    have hsr := hbr.size
    have HOR := Lib.hid hor
    clear hor
    by_cases hlt : k < nm
    · obtain ⟨bB, oB, rfl, hbB, hcB⟩ := HM1.out.2 (by omega)
      have hmk := HMM.out k hlt
      have c0 := (hbr.cell (p := ⟨bB, oB + k, none⟩) hbB).trans (hcB k hlt)
      rw [hmk.1] at c0
      obtain ⟨x, hx⟩ : ∃ x, pM k = x := ⟨_, rfl⟩
      rw [hx] at c0 hmk
      have hxn := hmk.2
      have hxw : IntKind.u8.wrap (x : Int) = (x : Int) := by rw [IntKind.wrap_u8']; omega
      have hstep := HES.out k
      rw [hx] at hstep
      have hel := HEL.out k hk
      obtain ⟨q0, q1, q2, qlt⟩ := HD3.out.keep hbr
      have CO := Lib.hid (isOut_any A ns cs s k wr (HS1.out.keep hbr) (by have := HE4.out; omega) (by omega))
      have hk1 : (k : Int) < (nm : Int) := by omega
      obtain ⟨cur, hcur⟩ : ∃ cur, enL s pM (lpn : Nat) k = cur := ⟨_, rfl⟩
      rw [hcur] at hstep hel
      have HOC : Hid (ownRow wr w1.heap.size 5 _ (bys cur)) := Lib.hid (hcur ▸ HOR.out)
      have HST := Lib.hid hstep
      clear hcB hmk hx hstep hcur
      cases ho : outB s k with
      | true =>
        rw [ho] at CO HST
        rw [if_pos rfl] at HST
        clear ho
        go_wp2_with (first
          | (at_builtin; refine wpList_append_row1 rfl (.tmp 37) (.tmp 40) 39 5 (.int .u8 0) 1 rfl Tryd.underlying39 Tryd.infoByteP rfl (by omega) w1.heap.size _ (bys cur) rfl (World.ownsRow.alloc HOC.out _) wr.heap.size (.int .u8 (x : Nat)) rfl (by rw [World.cell?_alloc_at _ _ _ _ rfl]; rfl) rfl (by simp; omega) (by simp; omega) ?_; intro A5 c5 w5 hrow5 hg5)
          | (go_at_call 51; ((with_reducible refine CO.out.mono ?_); rintro e w4 ⟨rfl, rfl⟩)))
        have hb5 : Below w1.heap.size w1 w5 := ((hbr.alloc hsr _).grown hg5 (by simp; omega) (fun k hk => (World.ownsRow.lt HOC.out k hk).1))
        have HR5 : Hid (ownRow w5 w1.heap.size 5 (.slice A5 ((bys cur).length + 1) c5) (bys (enL s pM (lpn : Nat) (k + 1)))) := Lib.hid (by
          rw [HST.out]
          have e1 : bys (cur ++ [(x : Int)]) = bys cur ++ [.int .u8 (x : Nat)] := by simp
          rw [e1]; exact hrow5)
        clear hrow5 hg5
        go_roundw
        case rel => exact ⟨k + 1, by omega, by go_num, hb5, by have := HR5.out; rwa [List.length_map] at this⟩
        case measure => simp [intOf]; omega
      | false =>
        rw [ho] at CO HST
        rw [if_neg (by decide)] at HST
        clear ho
        go_wp2_with ((go_at_call 51; ((with_reducible refine CO.out.mono ?_); rintro e w4 ⟨rfl, rfl⟩)))
        go_roundw
        case rel => exact ⟨k + 1, by omega, by go_num, hbr, by rw [HST.out]; exact HOC.out⟩
        case measure => simp [intOf]; omega
    · obtain rfl : nm = k := by omega
      have hown := HOR.out
      obtain ⟨A7, n7, c7, rfl⟩ : ∃ A n c, u5 = .slice A n c := by
        rcases id hown.2 with ⟨h1, _⟩ | ⟨g, cap, cur, h1, _⟩
        · exact ⟨_, _, _, h1⟩
        · exact ⟨_, _, _, h1⟩
      obtain ⟨hrb, rfl⟩ := rb_own hown
      have HRB := Lib.hid hrb
      have HBF : Hid (Below w.heap.size w wr) := Lib.hid (hb01.trans (hbr.mono hb01.size))
      clear hrb hown
      go_wp2
      go_ret2
      exact ⟨_, _, rfl, HRB.out, HBF.out⟩

end Go.Proofs.YtebliaclleplgaaDoor

/- Walk of the reference: Bytes. -/
namespace Go.Proofs.YtebliaclleplgaaDoor
open Go.ChangeShapes Go.WideShapes Go.ChangeAt Go.RowKit Go.Joins

def btP (s : List Int) (n b : Nat) : List Int := (List.range b).map fun i => (btK s n i : Int)
theorem btP_succ (s : List Int) (n b : Nat) : btP s n (b + 1) = btP s n b ++ [(btK s n b : Int)] := by unfold btP; rw [List.range_succ, List.map_append]; rfl
theorem btP_len (s : List Int) (n b : Nat) : (btP s n b).length = b := by simp [btP]
theorem btK_zero (s : List Int) (b : Nat) : btK s (8 * b) b = 0 := by
  have h := (btK_inv s (8 * b)).2.1
  rw [show 8 * b / 8 = b by omega, show 8 * b % 8 = 0 by omega] at h
  have h2 : btK s (8 * b) b < 1 := h
  omega
theorem btK_next (s : List Int) (b j : Nat) (hj : j < 8) : btK s (8 * b + (j + 1)) b = if s.getD (8 * b + j) 0 = 1 then btK s (8 * b + j) b + 2 ^ j else btK s (8 * b + j) b := by
  show (if s.getD (8 * b + j) 0 = 1 then upd (btK s (8 * b + j)) ((8 * b + j) / 8) (btK s (8 * b + j) ((8 * b + j) / 8) + 2 ^ ((8 * b + j) % 8)) else btK s (8 * b + j)) b = _
  rw [show (8 * b + j) / 8 = b by omega, show (8 * b + j) % 8 = j by omega]
  split
  · rw [upd_same]
  · rfl
theorem btK_end (s : List Int) (n b j : Nat) (h : 8 * b + j ≤ n) (he : j = 8 ∨ 8 * b + j = n) : btK s (8 * b + j) b = btK s n b := by
  rcases he with e | e
  · subst e
    have := btK_full s b (8 * b + 8) (n - (8 * b + 8)) (Nat.le_refl _)
    rw [show 8 * b + 8 + (n - (8 * b + 8)) = n by omega] at this
    exact this.symm
  · rw [e]

set_option maxHeartbeats 6400000 in
set_option maxRecDepth 100000 in
theorem rbytes_any (A B : Option Addr) (ns cs nm cm : Nat) (lp : Int) (s m : List Int) (w : World) (h : DV w A ns B nm s m) (hv : validB s m lp = true) :
    Calls Tryd.prog 20 #[dval A ns cs B nm cm lp] w fun e w' => ∃ A' c, e = .returned (.slice A' (enL s (matesOf m) lp nm).length c) ∧ RB w' A' (enL s (matesOf m) lp nm).length (enL s (matesOf m) lp nm) ∧ Below w.heap.size w w' := by
  have F := bk_facts hv
  have hls := h.hs.1
  have hlm := h.hm.1
  have hl4 := F.lm
  have h64 := F.le
  obtain ⟨_, _, l3, l4⟩ := limB_out F.lim
  have hmm : ∀ x, x < nm → m.getD x 0 = (matesOf m x : Int) ∧ matesOf m x < nm := matesOf_mates F.pr hlm
  have hns : ns ≤ 64 := by omega
  have hnm : nm ≤ 256 := by omega
  have e4 : nm = 4 * ns := by omega
  have hd := DB.new w A ns cs B nm cm lp
  have hb0 := below_alloc w (dbox A ns cs B nm cm lp)
  have HD0 := Lib.hid hd
  obtain ⟨lpn, rfl⟩ := Int.eq_ofNat_of_zero_le l3
  have hlpn : lpn ≤ 64 := by omega
  obtain ⟨pM, hpM⟩ : ∃ pM, matesOf m = pM := ⟨_, rfl⟩
  rw [hpM] at hmm ⊢
  have HMM := Lib.hid hmm
  have HE4 := Lib.hid e4
  obtain ⟨nb, hnb⟩ : ∃ nb, (ns + 7) / 8 = nb := ⟨_, rfl⟩
  have HE0 : Hid (enL s pM (lpn : Nat) 0 = [(ns : Int), (lpn : Nat)] ++ btP s ns nb) := Lib.hid (by
    have : mtL s pM 0 = [] := rfl
    unfold enL; rw [this, hls, ← hnb]; simp [btL, btP])
  have HNB := Lib.hid hnb
  have HEL : Hid (∀ k, k ≤ nm → (enL s pM (lpn : Nat) k).length ≤ 1000) := Lib.hid fun k hk => by have := enL_len s pM (lpn : Nat) k; omega
  have HES : Hid (∀ k, enL s pM (lpn : Nat) (k + 1) = if outB s k = true then enL s pM (lpn : Nat) k ++ [(pM k : Int)] else enL s pM (lpn : Nat) k) := Lib.hid (enL_succ s pM _)
  have w1n : IntKind.u8.wrap (ns : Int) = (ns : Int) := by rw [IntKind.wrap_u8']; omega
  have w1l : IntKind.u8.wrap (lpn : Int) = (lpn : Int) := by rw [IntKind.wrap_u8']; omega
  have HS0 := Lib.hid (h.hs.keep hb0)
  have HM0 := Lib.hid (h.hm.keep hb0)
  clear F hl4 h64 l3 l4 hls hlm h hv e4 hmm hpM hnb
  obtain ⟨d0, d1, d2, dlt⟩ := hd
  unfold dbox at *
  go_enter Tryd.func20, Tryd.ntmps20
  go_upto_region 1 with fail
  generalize w.alloc (.cells #[.slice A ns cs, .slice B nm cm, .int .i64 (lpn : Int)] 24) = w1 at *
  have hbB := below_alloc w1 (.cells #[.int .u8 (ns : Int), .int .u8 (lpn : Int)] 5)
  have HO0 : Hid (ownRow (w1.alloc (.cells #[.int .u8 (ns : Int), .int .u8 (lpn : Int)] 5)) w1.heap.size 5 (.slice (some ⟨w1.heap.size, 0, none⟩) 2 2) (bys ([(ns : Int), (lpn : Nat)] ++ btP s ns 0))) := Lib.hid (World.ownsRow_lit w1 #[.int .u8 (ns : Int), .int .u8 (lpn : Int)] 2 (Nat.le_refl _) (by simp [maxLen]) rfl)
  go_wp2
  generalize w1.alloc (.cells #[.int .u8 (ns : Int), .int .u8 (lpn : Int)] 5) = wB at *
  clear d0 d1 d2 dlt
  go_loopw [4, 5, 6, 7] (fun v i _ _ wr => ∃ b : Nat, b ≤ nb ∧ i = .int .i64 b ∧ Below w1.heap.size w1 wr ∧ ownRow wr w1.heap.size 5 v (bys ([(ns : Int), (lpn : Nat)] ++ btP s ns b))) (fun _ i _ _ _ => nb - (intOf i).toNat)
  case atStart => exact ⟨0, by omega, rfl, hbB, HO0.out⟩
  case round =>
    obtain ⟨b, hb, rfl, hbr, hor⟩ := hrel
    have hb00 : (0 : Int) ≤ (b : Int) := Int.natCast_nonneg _
    have hsr := hbr.size
    have HOR := Lib.hid hor
    clear hor
    obtain ⟨c8, hc8⟩ : ∃ c8, 8 * b = c8 := ⟨_, rfl⟩
    have HC8 := Lib.hid hc8
    have hnb9 : nb ≤ 8 := by have := HNB.out; omega
    have m1 : IntKind.i64.wrap (8 * (b : Int)) = (c8 : Int) := by rw [IntWalk.i64_in _ (by omega)]; omega
    obtain ⟨z0, z1, z2, zlt⟩ := HD0.out.keep hbr
    by_cases hlt : c8 < ns
    · have hbn : b < nb := by have := HNB.out; omega
      have hlt1 : (c8 : Int) < (ns : Int) := by omega
      have HX0 : Hid (btK s (c8 + 0) b = 0) := Lib.hid (by rw [← HC8.out]; exact btK_zero s b)
      obtain ⟨wO, hwO⟩ : ∃ wO : World, wO = wr := ⟨_, rfl⟩
      subst hwO
      clear hc8
      go_wp2
      go_loopw [6, 7] (fun x j wr => wr = wO ∧ ∃ q : Nat, q ≤ 8 ∧ c8 + q ≤ ns ∧ j = .int .i64 q ∧ x = .int .i64 (btK s (c8 + q) b : Nat)) (fun _ j _ => 8 - (intOf j).toNat)
      case atStart => exact ⟨rfl, 0, by omega, by omega, rfl, by rw [HX0.out]; rfl⟩
      case round =>
        obtain ⟨hw, q, hq8, hqn, rfl, rfl⟩ := hrel
        subst hw
        have hq0 : (0 : Int) ≤ (q : Int) := Int.natCast_nonneg _
        have hx := (btK_inv s (c8 + q)).2.2 b
        have hnext := btK_next s b q
        rw [HC8.out] at hnext
        obtain ⟨x, hxx⟩ : ∃ x, btK s (c8 + q) b = x := ⟨_, rfl⟩
        have hend := btK_end s ns b q
        rw [HC8.out, hxx] at hend
        rw [hxx] at hnext hx
        simp only [hxx]
        obtain ⟨p, hp⟩ : ∃ p, c8 + q = p := ⟨_, rfl⟩
        have m2 : IntKind.i64.wrap ((c8 : Int) + (q : Int)) = (p : Int) := by rw [IntWalk.i64_in _ (by omega)]; omega
        have HP := Lib.hid hp
        have x0 : (0 : Int) ≤ (x : Int) := Int.natCast_nonneg _
        by_cases hin : q < 8 ∧ p < ns
        · obtain ⟨hin1, hin2⟩ := hin
          have i1 : (q : Int) < 8 := by omega
          have i2 : (p : Int) < (ns : Int) := by omega
          have p0 : (0 : Int) ≤ (p : Int) := Int.natCast_nonneg _
          obtain ⟨bA, oA, rfl, hbA, hcA⟩ := (HS0.out.keep hbr).2 (by omega)
          have cA := hcA p hin2
          have hn2 := hnext hin1
          rw [hp] at hn2
          by_cases h1 : s.getD p 0 = 1
          · rw [if_pos h1] at hn2
            rw [h1] at cA
            have hpw : 2 ^ q ≤ 128 := Nat.le_trans (Nat.pow_le_pow_right (by decide) (by omega : q ≤ 7)) (by decide)
            obtain ⟨y, hy⟩ : ∃ y, 2 ^ q = y := ⟨_, rfl⟩
            rw [hy] at hn2
            have e3 : ((2 : Int) ^ q) = (y : Int) := by rw [← hy]; norm_cast
            have e4 : IntKind.i64.wrap (y : Int) = (y : Int) := IntWalk.i64_in _ (by omega)
            have HN2 := Lib.hid hn2
            have hxy : x + y < 1000 := by omega
            have y0 : (0 : Int) ≤ (y : Int) := Int.natCast_nonneg _
            clear hcA hn2 hnext hend hp hxx hx h1 hy
            go_wp2
            go_roundw
            case rel => exact ⟨trivial, q + 1, by omega, by have := HP.out; omega, by go_num, by rw [HN2.out]; go_num⟩
            case measure => simp [intOf]; omega
          · rw [if_neg h1] at hn2
            have h1' : (s.getD p 0 == 1) = false := by simpa using h1
            obtain ⟨sg, hsg⟩ : ∃ sg, s.getD p 0 = sg := ⟨_, rfl⟩
            rw [hsg] at cA h1'
            have HN2 := Lib.hid hn2
            clear hcA hn2 hnext hend hp hxx h1 hsg
            go_wp2
            go_roundw
            case rel => exact ⟨trivial, q + 1, by omega, by have := HP.out; omega, by go_num, by rw [HN2.out]⟩
            case measure => simp [intOf]; omega
        · have hxe := hend (by omega) (by omega)
          have hbs := btP_succ s ns b
          rw [← hxe] at hbs
          have HBS := Lib.hid hbs
          have hxw : IntKind.u8.wrap (x : Int) = (x : Int) := by rw [IntKind.wrap_u8']; omega
          have hxl := btP_len s ns b
          obtain ⟨cur, hcur⟩ : ∃ cur, [(ns : Int), (lpn : Nat)] ++ btP s ns b = cur := ⟨_, rfl⟩
          have hcl : cur.length ≤ 100 := by rw [← hcur]; simp [hxl]; omega
          have HCUR := Lib.hid hcur
          have HOC : Hid (ownRow _ w1.heap.size 5 _ (bys cur)) := Lib.hid (hcur ▸ HOR.out)
          have hor2 : (q < 8 ∧ ¬ p < ns) ∨ ¬ q < 8 := by omega
          clear hend hnext hxe hbs hxx hp hcur hin hxl
          rcases hor2 with ⟨g1, g2⟩ | g1
          · have i1 : (q : Int) < 8 := by omega
            have i2 : ¬ (p : Int) < (ns : Int) := by omega
            clear g1 g2
            go_wp2_with (at_builtin; refine wpList_append_row1 rfl (.tmp 49) (.tmp 52) 39 5 (.int .u8 0) 1 rfl Tryd.underlying39 Tryd.infoByteP rfl (by omega) w1.heap.size _ (bys cur) rfl (World.ownsRow.alloc HOC.out _) _ (.int .u8 (x : Nat)) rfl (by rw [World.cell?_alloc_at _ _ _ _ rfl]; rfl) rfl (by simp; omega) (by simp; omega) ?_; intro A5 c5 w5 hrow5 hg5)
            have hb5 : Below w1.heap.size w1 w5 := ((hbr.alloc hsr _).grown hg5 (by simp; omega) (fun k hk => (World.ownsRow.lt HOC.out k hk).1))
            have HR5 : Hid (ownRow w5 w1.heap.size 5 (.slice A5 (cur.length + 1) c5) (bys ([(ns : Int), (lpn : Nat)] ++ btP s ns (b + 1)))) := Lib.hid (by
              rw [HBS.out, ← List.append_assoc, HCUR.out]
              have e1 : bys (cur ++ [(x : Int)]) = bys cur ++ [.int .u8 (x : Nat)] := by simp
              rw [e1]; rw [List.length_map] at hrow5; exact hrow5)
            clear hrow5 hg5
            go_roundw
            case rel => exact ⟨b + 1, by omega, by go_num, hb5, HR5.out⟩
            case measure => simp [intOf]; omega
          · have i1 : ¬ (q : Int) < 8 := by omega
            clear g1
            go_wp2_with (at_builtin; refine wpList_append_row1 rfl (.tmp 49) (.tmp 52) 39 5 (.int .u8 0) 1 rfl Tryd.underlying39 Tryd.infoByteP rfl (by omega) w1.heap.size _ (bys cur) rfl (World.ownsRow.alloc HOC.out _) _ (.int .u8 (x : Nat)) rfl (by rw [World.cell?_alloc_at _ _ _ _ rfl]; rfl) rfl (by simp; omega) (by simp; omega) ?_; intro A5 c5 w5 hrow5 hg5)
            have hb5 : Below w1.heap.size w1 w5 := ((hbr.alloc hsr _).grown hg5 (by simp; omega) (fun k hk => (World.ownsRow.lt HOC.out k hk).1))
            have HR5 : Hid (ownRow w5 w1.heap.size 5 (.slice A5 (cur.length + 1) c5) (bys ([(ns : Int), (lpn : Nat)] ++ btP s ns (b + 1)))) := Lib.hid (by
              rw [HBS.out, ← List.append_assoc, HCUR.out]
              have e1 : bys (cur ++ [(x : Int)]) = bys cur ++ [.int .u8 (x : Nat)] := by simp
              rw [e1]; rw [List.length_map] at hrow5; exact hrow5)
            clear hrow5 hg5
            go_roundw
            case rel => exact ⟨b + 1, by omega, by go_num, hb5, HR5.out⟩
            case measure => simp [intOf]; omega
    · have hlt1 : ¬ (c8 : Int) < (ns : Int) := by omega
      obtain rfl : b = nb := by have := HNB.out; omega
      have HO3 : Hid (ownRow wr w1.heap.size 5 _ (bys (enL s pM (lpn : Nat) 0))) := Lib.hid (by rw [HE0.out]; exact HOR.out)
      obtain ⟨wO, hwO⟩ : ∃ wO : World, wO = wr := ⟨_, rfl⟩
      subst hwO
      have m4 : IntKind.i64.wrap (4 * (ns : Int)) = (nm : Int) := by rw [IntWalk.i64_in _ (by omega), HE4.out]; omega
      clear HOR hc8 z0 z1 z2 zlt
      go_wp2
      go_loopw [4, 8] (fun v i wr => ∃ k : Nat, k ≤ nm ∧ i = .int .i64 k ∧ Below w1.heap.size w1 wr ∧ ownRow wr w1.heap.size 5 v (bys (enL s pM (lpn : Nat) k))) (fun _ i _ => nm - (intOf i).toNat)
      case atStart => exact ⟨0, by omega, rfl, hbr, HO3.out⟩
      case round =>
        obtain ⟨k, hk, rfl, hbk, hor⟩ := hrel
        have hk0 : (0 : Int) ≤ (k : Int) := Int.natCast_nonneg _
        have hsk := hbk.size
        have HOR := Lib.hid hor
        clear hor
        by_cases hkl : k < nm
        · obtain ⟨bB, oB, rfl, hbB', hcB⟩ := (HM0.out.keep hbk).2 (by omega)
          have hmk := HMM.out k hkl
          have c0 := hcB k hkl
          rw [hmk.1] at c0
          obtain ⟨x, hx⟩ : ∃ x, pM k = x := ⟨_, rfl⟩
          rw [hx] at c0 hmk
          have hxn := hmk.2
          have hxw : IntKind.u8.wrap (x : Int) = (x : Int) := by rw [IntKind.wrap_u8']; omega
          have hstep := HES.out k
          rw [hx] at hstep
          have hel := HEL.out k hk
          obtain ⟨q0, q1, q2, qlt⟩ := HD0.out.keep hbk
          have CO := Lib.hid (rout_any A ns cs s k wr (HS0.out.keep hbk) (by have := HE4.out; omega) (by omega))
          have hk1 : (k : Int) < (nm : Int) := by omega
          obtain ⟨cur, hcur⟩ : ∃ cur, enL s pM (lpn : Nat) k = cur := ⟨_, rfl⟩
          rw [hcur] at hstep hel
          have HOC : Hid (ownRow wr w1.heap.size 5 _ (bys cur)) := Lib.hid (hcur ▸ HOR.out)
          have HST := Lib.hid hstep
          clear hcB hmk hx hstep hcur
          cases ho : outB s k with
          | true =>
            rw [ho] at CO HST
            rw [if_pos rfl] at HST
            clear ho
            go_wp2_with (first
              | (at_builtin; refine wpList_append_row1 rfl (.tmp 64) (.tmp 71) 39 5 (.int .u8 0) 1 rfl Tryd.underlying39 Tryd.infoByteP rfl (by omega) w1.heap.size _ (bys cur) rfl (World.ownsRow.alloc HOC.out _) wr.heap.size (.int .u8 (x : Nat)) rfl (by rw [World.cell?_alloc_at _ _ _ _ rfl]; rfl) rfl (by simp; omega) (by simp; omega) ?_; intro A5 c5 w5 hrow5 hg5)
              | (go_at_call 30; ((with_reducible refine CO.out.mono ?_); rintro e w4 ⟨rfl, rfl⟩)))
            have hb5 : Below w1.heap.size w1 w5 := ((hbk.alloc hsk _).grown hg5 (by simp; omega) (fun k hk => (World.ownsRow.lt HOC.out k hk).1))
            have HR5 : Hid (ownRow w5 w1.heap.size 5 (.slice A5 (cur.length + 1) c5) (bys (enL s pM (lpn : Nat) (k + 1)))) := Lib.hid (by
              rw [HST.out]
              have e1 : bys (cur ++ [(x : Int)]) = bys cur ++ [.int .u8 (x : Nat)] := by simp
              rw [e1]; rw [List.length_map] at hrow5; exact hrow5)
            clear hrow5 hg5
            go_roundw
            case rel => exact ⟨k + 1, by omega, by go_num, hb5, HR5.out⟩
            case measure => simp [intOf]; omega
          | false =>
            rw [ho] at CO HST
            rw [if_neg (by decide)] at HST
            clear ho
            go_wp2_with ((go_at_call 30; ((with_reducible refine CO.out.mono ?_); rintro e w4 ⟨rfl, rfl⟩)))
            go_roundw
            case rel => exact ⟨k + 1, by omega, by go_num, hbk, by rw [HST.out]; exact HOC.out⟩
            case measure => simp [intOf]; omega
        · obtain rfl : nm = k := by omega
          have hown := HOR.out
          obtain ⟨A7, n7, c7, rfl⟩ : ∃ A n c, u4 = .slice A n c := by
            rcases id hown.2 with ⟨h1, _⟩ | ⟨g, cap, cur, h1, _⟩
            · exact ⟨_, _, _, h1⟩
            · exact ⟨_, _, _, h1⟩
          obtain ⟨hrb, rfl⟩ := rb_own hown
          have HRB := Lib.hid hrb
          have HBF : Hid (Below w.heap.size w wr) := Lib.hid (hb0.trans (hbk.mono hb0.size))
          clear hrb hown
          go_wp2
          go_ret
          exact ⟨_, _, rfl, HRB.out, HBF.out⟩

end Go.Proofs.YtebliaclleplgaaDoor

/- Walks: slices.Grow of a nil slice, slices.Concat of rows that are not empty. -/
namespace Go.Proofs.YtebliaclleplgaaDoor
open Go.RowKit

set_option maxHeartbeats 2000000 in
set_option maxRecDepth 100000 in
theorem grow_any (n : Nat) (hn : n ≤ 1000000) (w : World) : Calls Tryd.prog 75 #[.slice none 0 0, .int .i64 (n : Nat)] w fun e w' => ∃ v, e = .returned v ∧ OI w' w.heap.size v [] ∧ Below w.heap.size w w' := by
  have hn0 : (0 : Int) ≤ (n : Int) := Int.natCast_nonneg _
  by_cases hz : n = 0
  · subst hz
    go_enter Tryd.func75, Tryd.ntmps75
    go_wp2
    go_ret
    exact ⟨_, rfl, OI.nil _ _, Below.refl _ _⟩
  · obtain ⟨i0, hi, hz0, hz1, hz2⟩ := info_parts Tryd.infoInt
    have hn1 : 0 < (n : Int) := by omega
    have hrz : ∀ ty, (Builtin.append_ #[22, 3] ty #[.slice none 0 0, .int .i64 (n : Nat)]).run Tryd.prog w =
        .ok (.slice (some ⟨w.heap.size, 0, none⟩) n (grownCap w n 0 3)) (w.drew.alloc (.cells (Builtin.zeroCells #[.int .i64 0] n ++ Builtin.zeroCells #[.int .i64 0] (grownCap w n 0 3 - n)) 3)) := fun ty => by
      have h := Lib.run_append_grow_zeros w 22 3 ty 3 i0 (.int .i64 0) .i64 .i64 Tryd.underlying22 Tryd.underlying3 hi hz0 none 0 0 [] (run_firstCells_none w.drew i0.size 0 0 0) n (by omega) (by omega) (by omega) (by omega) (by rw [hz2]; omega)
        (by rw [hz2, Nat.zero_add]; exact growslice_fits (by omega) (by omega))
      simp only [Nat.zero_add, Value.cells] at h
      simpa using h
    have hGn : n ≤ grownCap w n 0 3 := grownCap_ge w _ _ _
    have hGm : grownCap w n 0 3 ≤ maxLen := grownCap_le_maxLen w n 0 3 (by unfold maxLen; omega)
    obtain ⟨G, hG⟩ : ∃ G, grownCap w n 0 3 = G := ⟨_, rfl⟩
    rw [hG] at hrz hGn hGm
    have HO : Hid (OI (w.drew.alloc (.cells (Builtin.zeroCells #[.int .i64 0] n ++ Builtin.zeroCells #[.int .i64 0] (G - n)) 3)) w.heap.size (.slice (some ⟨w.heap.size, 0, none⟩) 0 G) []) := Lib.hid (World.ownsRow_made w.drew _ G (Nat.le_refl _) hGm (by simp only [Array.size_append, size_zeroCells]; show n * 1 + (G - n) * 1 = G * 1; omega))
    have HB : Hid (Below w.heap.size w (w.drew.alloc (.cells (Builtin.zeroCells #[.int .i64 0] n ++ Builtin.zeroCells #[.int .i64 0] (G - n)) 3))) := Lib.hid ((Below.refl w.heap.size w).drew.alloc (by simp) _)
    have hG63 : G ≤ 9223372036854775807 := by unfold maxLen at hGm; omega
    clear hG hGm hi hz
    go_enter Tryd.func75, Tryd.ntmps75
    go_wp2_with (at_builtin; refine Lib.wpList_append_run _ rfl _ _ _ _ rfl _ _ rfl rfl _ _ (hrz _) ?_)
    go_ret
    exact ⟨_, rfl, HO.out, HB.out⟩

/-- The lists of the first k rows, one behind the other. -/
def flT (xss : List (List Int)) (k : Nat) : List Int := (xss.take k).flatten
theorem flT_succ (xss : List (List Int)) (k : Nat) (h : k < xss.length) : flT xss (k + 1) = flT xss k ++ xss.getD k [] := by
  unfold flT
  rw [List.take_add_one, List.flatten_append]
  simp [List.getD, h]
theorem flT_all (xss : List (List Int)) : flT xss xss.length = xss.flatten := by unfold flT; rw [List.take_length]
theorem flT_le (xss : List (List Int)) (k : Nat) : (flT xss k).length ≤ xss.flatten.length := by
  have e := congrArg List.length (congrArg List.flatten (List.take_append_drop k xss))
  rw [List.flatten_append, List.length_append] at e
  unfold flT; omega

set_option maxHeartbeats 3200000 in
set_option maxRecDepth 100000 in
theorem concat_any (A : Option Addr) (n c : Nat) (xss : List (List Int)) (w : World) (hA : RO w A n xss) (hn : n ≤ 1000) (hl : xss.flatten.length ≤ 1000) (hne : ∀ j, j < n → 0 < (xss.getD j []).length) :
    Calls Tryd.prog 57 #[.slice A n c] w fun e w' => ∃ v, e = .returned v ∧ OI w' w.heap.size v xss.flatten ∧ Below w.heap.size w w' := by
  have hxl := hA.1
  have HA := Lib.hid hA
  have HNE := Lib.hid hne
  have HXL := Lib.hid hxl
  have HF := Lib.hid (flT_all xss)
  have hle : ∀ k, (flT xss k).length ≤ 1000 := fun k => Nat.le_trans (flT_le xss k) hl
  have HLE := Lib.hid hle
  have HROW : Hid (∀ k, k < n → ∃ b o c', A = some ⟨b, o, none⟩ ∧ b < w.heap.size ∧ ∃ b' o', w.cell? ⟨b, o + k, none⟩ = some (.slice (some ⟨b', o', none⟩) (xss.getD k []).length c') ∧ b' < w.heap.size ∧ ∀ j, j < (xss.getD k []).length → w.cell? ⟨b', o' + j, none⟩ = some (.int .i64 ((xss.getD k []).getD j 0))) := Lib.hid fun k hk => by
    obtain ⟨b, o, e, hb, hc⟩ := hA.2 (by omega)
    obtain ⟨A', n', c', h1, h2⟩ := hc k hk
    obtain rfl := h2.1
    obtain ⟨b', o', e', hb', hc'⟩ := h2.2 (hne k hk)
    exact ⟨b, o, c', e, hb, b', o', by rw [h1, e'], hb', hc'⟩
  clear hA hne hl hxl hle
  go_enter Tryd.func57, Tryd.ntmps57
  go_wp2
  go_loopw [3, 5, 11] (fun z _ i wr => ∃ k : Nat, k ≤ n ∧ i = .int .i64 k ∧ wr = w ∧ z = .int .i64 (flT xss k).length) (fun _ _ i _ => n - (intOf i).toNat)
  case atStart => exact ⟨0, by omega, rfl, rfl, rfl⟩
  case round =>
    obtain ⟨k, hk, rfl, hw, rfl⟩ := hrel
    subst hw
    have hk0 : (0 : Int) ≤ (k : Int) := Int.natCast_nonneg _
    by_cases hlt : k < n
    · obtain ⟨b, o, c', rfl, hb, b', o', hcel, hb', hc'⟩ := HROW.out k hlt
      have hs := flT_succ xss k (by rw [HXL.out]; exact hlt)
      have hle1 := HLE.out (k + 1)
      have hlen : (flT xss (k + 1)).length = (flT xss k).length + (xss.getD k []).length := by rw [hs, List.length_append]
      obtain ⟨q, hq⟩ : ∃ q, (flT xss k).length = q := ⟨_, rfl⟩
      obtain ⟨r, hr⟩ : ∃ r, (xss.getD k []).length = r := ⟨_, rfl⟩
      rw [hq, hr] at hlen
      rw [hr] at hcel
      simp only [hq]
      have HLEN := Lib.hid hlen
      have hqr : q + r ≤ 1000 := by omega
      have hq0 : (0 : Int) ≤ (q : Int) := Int.natCast_nonneg _
      have hr0 : (0 : Int) ≤ (r : Int) := Int.natCast_nonneg _
      have hk1 : (k : Int) < (n : Int) := by omega
      clear hs hlen hq hr hc' hle1
      go_wp2
      go_roundw
      case rel => exact ⟨k + 1, by omega, by go_num, trivial, by rw [HLEN.out]; go_num⟩
      case measure => simp [intOf]; omega
    · obtain rfl : n = k := by omega
      obtain ⟨wO, hwO⟩ : ∃ wO : World, wO = wr := ⟨_, rfl⟩
      subst hwO
      have hle1 := HLE.out n
      obtain ⟨q, hq⟩ : ∃ q, (flT xss n).length = q := ⟨_, rfl⟩
      rw [hq] at hle1
      simp only [hq]
      have CG := Lib.hid (grow_any q (by omega) wO)
      clear hq hlt
      go_wp2_with (go_at_call 75; ((with_reducible refine CG.out.mono ?_); rintro e w1 ⟨v1, rfl, ho1, hb1⟩))
      go_loopw [6, 8, 27] (fun v _ i wr => ∃ k : Nat, k ≤ n ∧ i = .int .i64 k ∧ Below wO.heap.size wO wr ∧ OI wr wO.heap.size v (flT xss k)) (fun _ _ i _ => n - (intOf i).toNat)
      case atStart => exact ⟨0, by omega, rfl, hb1, ho1⟩
      case round =>
        obtain ⟨k, hk, rfl, hbx, hox⟩ := hrel
        have hk0 : (0 : Int) ≤ (k : Int) := Int.natCast_nonneg _
        by_cases hlt : k < n
        · obtain ⟨b, o, c', rfl, hb, b', o', hcel, hb', hc'⟩ := HROW.out k hlt
          have hs := flT_succ xss k (by rw [HXL.out]; exact hlt)
          have hle1 := HLE.out (k + 1)
          rw [hs, List.length_append] at hle1
          have hcelx := (hbx.cell (p := ⟨b, o + k, none⟩) hb).trans hcel
          have hcx : ∀ j, j < (xss.getD k []).length → wr.cell? ⟨b', o' + j, none⟩ = some (.int .i64 ((xss.getD k []).getD j 0)) := fun j hj => (hbx.cell (p := ⟨b', o' + j, none⟩) hb').trans (hc' j hj)
          obtain ⟨row, hrow⟩ : ∃ row, xss.getD k [] = row := ⟨_, rfl⟩
          rw [hrow] at hcelx hcx hs hle1
          have HCX := Lib.hid hcx
          have HS := Lib.hid hs
          have HOX := Lib.hid hox
          obtain ⟨i0, hi, hz0, hz1, hz2⟩ := info_parts Tryd.infoInt
          have hk1 : (k : Int) < (n : Int) := by omega
          obtain ⟨cur, hcur⟩ : ∃ cur, flT xss k = cur := ⟨_, rfl⟩
          rw [hcur] at hle1
          have HCUR := Lib.hid hcur
          have HOC : Hid (OI wr wO.heap.size _ cur) := Lib.hid (hcur ▸ hox)
          obtain ⟨rl, hrl⟩ : ∃ rl, row.length = rl := ⟨_, rfl⟩
          rw [hrl] at hcelx hle1
          have HRL := Lib.hid hrl
          clear hs hcx hox hc' hcel hrow hcur hrl
          go_wp2_with (at_builtin; refine wpList_append_own _ rfl (.tmp 31) (.tmp 32) 22 rfl wO.heap.size 3 i0 (.int .i64 0) 1 8 Tryd.underlying22 hi hz0 hz1 hz2 rfl (by decide) _ _ (ints cur) rfl HOC.out ⟨b', o', none⟩ rl c' (ints row) rfl (by simp [HRL.out]) ?c1 ?c2 ?c3 ?c4 ?c5 ?_)
          case c1 =>
            intro j u hj
            have hjl : j < row.length := by
              have := (List.getElem?_eq_some_iff.1 hj).1
              simpa using this
            have h1 := HCX.out j hjl
            have ha : (⟨b', o', none⟩ : Addr).add j = ⟨b', o' + j, none⟩ := by unfold Addr.add; split <;> simp_all
            rw [ha, h1]
            simp [hjl] at hj
            simp [List.getD, hjl, hj]
          case c2 => intro u hu; obtain ⟨x, _, rfl⟩ := List.mem_map.1 hu; rfl
          case c3 => unfold maxLen; omega
          case c4 => omega
          case c5 => exact hbx.size
          intro v2 w2 ho2 hg2 _
          have hb2 : Below wO.heap.size wO w2 := hbx.grown hg2 hbx.size (fun q hq => (World.ownsRow.lt HOC.out q hq).1)
          have HO2 : Hid (OI w2 wO.heap.size v2 (flT xss (k + 1))) := Lib.hid (by
            rw [HS.out, HCUR.out]
            unfold OI
            have e1 : (cur ++ row).length = cur.length + rl := by rw [List.length_append, HRL.out]
            have e2 : ints (cur ++ row) = ints cur ++ ints row := by simp [ints]
            rw [e1, e2]; exact ho2)
          clear ho2 hg2
          go_wp2
          go_roundw
          case rel => exact ⟨k + 1, by omega, by go_num, hb2, HO2.out⟩
          case measure => simp [intOf]; omega
        · obtain rfl : n = k := by omega
          have HOX := Lib.hid hox
          clear hox
          go_wp2
          go_ret
          exact ⟨_, rfl, by have h1 := HOX.out; rw [← HXL.out, HF.out] at h1; exact h1, hbx⟩

end Go.Proofs.YtebliaclleplgaaDoor

/- Walk: labelsOf. -/
namespace Go.Proofs.YtebliaclleplgaaDoor
open Go.RowKit

/-- Behind w2 only block g has changed. -/
structure Kp (w2 wr : World) (g : Nat) : Prop where
  size : w2.heap.size ≤ wr.heap.size
  cell : ∀ b i, b < w2.heap.size → b ≠ g → wr.cell? ⟨b, i, none⟩ = w2.cell? ⟨b, i, none⟩
theorem Kp.refl (w : World) (g : Nat) : Kp w w g := ⟨Nat.le_refl _, fun _ _ _ _ => rfl⟩
theorem Kp.set {w2 wr : World} {g : Nat} (h : Kp w2 wr g) (i : Nat) (u : Value) : Kp w2 (wr.setCell ⟨g, i, none⟩ u) g :=
  ⟨by simp [World.setCell]; exact h.size, fun b j hb hne => by rw [World.cell?_setCell_other _ _ _ _ (by first | (simp; done) | (simp; omega))]; exact h.cell b j hb hne⟩
theorem OI.shp {w : World} {B : Nat} {v : Value} {xs : List Int} (h : OI w B v xs) : ∃ A c, v = .slice A xs.length c ∧ RI w A xs.length xs ∧ ∀ b o, A = some ⟨b, o, none⟩ → B ≤ b := by
  rcases OI.form h with ⟨rfl, rfl⟩ | ⟨g, cap, rfl, hg, _⟩
  · exact ⟨none, 0, rfl, RI.nil _ _, fun b o e => by cases e⟩
  · exact ⟨_, cap, rfl, h.ri, fun b o e => by injection e with e; injection e with e1 _ _; omega⟩

set_option maxHeartbeats 3200000 in
set_option maxRecDepth 100000 in
theorem labels_any (A B : Option Addr) (ns cs nm cm : Nat) (lp : Int) (s m : List Int) (w : World) (h : DV w A ns B nm s m) (hv : validB s m lp = true) :
    Calls Tryd.prog 25 #[dval A ns cs B nm cm lp] w fun e w' => ∃ g, e = .returned (.slice (some ⟨g, 0, none⟩) nm nm) ∧ Arr w' g 3 nm (iv (lbM s m lp)) ∧ w.heap.size ≤ g ∧ Below w.heap.size w w' := by
  have F := bk_facts hv
  have hls := h.hs.1
  have hlm := h.hm.1
  have hl4 := F.lm
  have h64 := F.le
  have hmm : ∀ x, x < nm → m.getD x 0 = (matesOf m x : Int) ∧ matesOf m x < nm := matesOf_mates F.pr hlm
  have hsl := seq_len hv
  have hsq : ∀ k, k < (seqM s m lp).length → ∃ x : Nat, (seqM s m lp).getD k 0 = (x : Int) ∧ x < nm := fun k hk => by
    obtain ⟨x, e, hx, _⟩ := seq_at hv (k := k) (by omega)
    exact ⟨x, e, by omega⟩
  have hnm : nm ≤ 256 := by omega
  have hd := DB.new w A ns cs B nm cm lp
  have hb0 := below_alloc w (dbox A ns cs B nm cm lp)
  have hmk := fun W => make_one (P := Tryd.prog) Tryd.underlying22 Tryd.infoInt rfl nm (by omega) (by omega) W
  have hbM := below_alloc (w.alloc (dbox A ns cs B nm cm lp)) (.cells (cellsN nm fun _ => .int .i64 0) 3)
  have HDM := Lib.hid (hd.keep hbM)
  have HDV := Lib.hid ((h.keep hb0).keep hbM)
  have HA0 := Lib.hid ((Arr.new (w.alloc (dbox A ns cs B nm cm lp)) nm 3 (fun _ => .int .i64 0)).congr (V' := iv (lbK (matesOf m) (seqM s m lp) 0)) fun _ _ => rfl)
  have hsz : (w.alloc (dbox A ns cs B nm cm lp)).heap.size = w.heap.size + 1 := by simp
  rw [hsz] at HA0
  have hb00 := below_step hb0 hbM
  have hsz2 : ((w.alloc (dbox A ns cs B nm cm lp)).alloc (.cells (cellsN nm fun _ => .int .i64 0) 3)).heap.size = w.heap.size + 2 := by simp
  have CC : ∀ (W : World) (A' : Option Addr) (c : Nat), RO W A' (strandsM s m lp).length (strandsM s m lp) → Hid (Calls Tryd.prog 57 #[.slice A' (strandsM s m lp).length c] W fun e w' => ∃ v, e = .returned v ∧ OI w' W.heap.size v (seqM s m lp) ∧ Below W.heap.size W w') := fun W A' c hr => by
    have h1 := strandsM_le (signs := s) (mate := m) (lp := lp)
    exact concat_any A' _ c (strandsM s m lp) W hr (by omega) (by unfold seqM at hsl; omega) (fun j hj => strands_ne hj)
  have CS : ∀ W, DV W A ns B nm s m → Hid (Calls Tryd.prog 17 #[dval A ns cs B nm cm lp] W (CycsPost W (strandsM s m lp))) := fun W h => strands_any A B ns cs nm cm lp s m W h
  have HM := Lib.hid h.hm
  have HMM := Lib.hid hmm
  have HSQ := Lib.hid hsq
  have HLB : Hid (lbK (matesOf m) (seqM s m lp) (seqM s m lp).length = lbM s m lp) := Lib.hid rfl
  obtain ⟨pM, hpM⟩ : ∃ pM, matesOf m = pM := ⟨_, rfl⟩
  obtain ⟨xss, hxs⟩ : ∃ xss, strandsM s m lp = xss := ⟨_, rfl⟩
  obtain ⟨q, hq⟩ : ∃ q, seqM s m lp = q := ⟨_, rfl⟩
  obtain ⟨fin, hfin⟩ : ∃ fin, lbM s m lp = fin := ⟨_, rfl⟩
  rw [hfin] at HLB ⊢
  rw [hpM] at HMM HA0 HLB
  simp only [hxs, hq] at CC CS HSQ HA0 HLB hsl
  have hql : q.length ≤ 128 := by omega
  obtain ⟨L, hL⟩ : ∃ L, q.length = L := ⟨_, rfl⟩
  rw [hL] at HSQ HLB hql
  have HL := Lib.hid hL
  clear hmm hsq F hl4 h64 hsl hls hlm h hv hpM hxs hq hfin hL
  obtain ⟨d0, d1, d2, dlt⟩ := hd
  unfold dbox at *
  go_enter Tryd.func25, Tryd.ntmps25
  go_upto_region 2 with fail
  generalize ((w.alloc (.cells #[.slice A ns cs, .slice B nm cm, .int .i64 lp] 24)).alloc (.cells (cellsN nm fun _ => .int .i64 0) 3)) = wM at *
  clear d0 d1 d2 dlt
  obtain ⟨x0, x1, x2, xlt⟩ := HDM.out
  go_wp2_with (first
    | (go_at_call 17; ((with_reducible refine (CS _ HDV.out).out.mono ?_); rintro e w1 ⟨v1, rfl, ho1, hb1⟩; obtain ⟨A1, c1, rfl, hro1⟩ := ho1.ro))
    | (go_at_call 57; ((with_reducible refine (CC _ _ _ hro1).out.mono ?_); rintro e w2 ⟨v2, rfl, ho2, hb2⟩; obtain ⟨A2, c2, rfl, hr2, hg2⟩ := OI.shp ho2; rw [HL.out])))
  rw [HL.out] at hr2
  have hb02 := below_step hb1 hb2
  have HDB2 := Lib.hid (HDM.out.keep hb02)
  have HA2 := Lib.hid (HA0.out.keep hb02)
  have HR2 := Lib.hid hr2
  have HG2 := Lib.hid hg2
  have HM2 := Lib.hid ((HM.out.keep hb00).keep hb02)
  have hs1 := hb1.size
  have hs2 := hb2.size
  have hbw := below_step hb00 hb02
  clear ho1 hro1 ho2 hr2 hg2
  go_loopw [4, 5, 14] (fun _ _ i wr => ∃ k : Nat, k ≤ L ∧ i = .int .i64 k ∧ Below w.heap.size w wr ∧ Kp w2 wr (w.heap.size + 1) ∧ Arr wr (w.heap.size + 1) 3 nm (iv (lbK pM q k))) (fun _ _ i _ => L - (intOf i).toNat)
  case atStart => exact ⟨0, by omega, rfl, hbw, Kp.refl _ _, HA2.out⟩
  case round =>
    obtain ⟨k, hk, rfl, hbr, hkp, har⟩ := hrel
    have hk0 : (0 : Int) ≤ (k : Int) := Int.natCast_nonneg _
    by_cases hlt : k < L
    · obtain ⟨x, hx, hxn⟩ := HSQ.out k hlt
      obtain ⟨bq, oq, e1, hbq, hcq⟩ := HR2.out.2 (by omega)
      subst e1
      have hgq := HG2.out bq oq rfl
      obtain ⟨bB, oB, e2, hbB, hcB⟩ := HM.out.2 (by omega)
      subst e2
      have hyn := (HMM.out x hxn).2
      have hy := (HMM.out x hxn).1
      have c1 : wr.cell? ⟨bq, oq + k, none⟩ = some (.int .i64 (x : Nat)) := by rw [hkp.cell bq _ hbq (by omega), hcq k hlt, hx]
      have c2 : wr.cell? ⟨w.heap.size, 1, none⟩ = some (.slice (some ⟨bB, oB, none⟩) nm cm) := by rw [hkp.cell _ _ (by omega) (by omega)]; exact HDB2.out.2.1
      have c3 : wr.cell? ⟨bB, oB + x, none⟩ = some (.int .i64 (pM x : Nat)) := by
        rw [hkp.cell bB _ (by omega) (by omega), (hb02.cell (p := ⟨bB, oB + x, none⟩) (show bB < wM.heap.size by omega)), (hb00.cell (p := ⟨bB, oB + x, none⟩) hbB), hcB x hxn, hy]
      have hfr := har.frozen
      have f1 := hfr x
      have f2 := hfr (pM x)
      have k1 := har.cell x hxn
      have k2 := har.cell (pM x) hyn
      have HKP := Lib.hid hkp
      have HAR := Lib.hid har
      have har1 := har.seti x (k + 1)
      rw [show ((k + 1 : Nat) : Int) = (k : Int) + 1 by omega] at har1
      have k3 := har1.cell (pM x) hyn
      have f3 := har1.frozen (pM x)
      have HX := Lib.hid hx
      obtain ⟨y, hyy⟩ : ∃ y, pM x = y := ⟨_, rfl⟩
      rw [hyy] at hyn c3 f2 k2 k3 f3
      have HY := Lib.hid hyy
      have hx0 : (0 : Int) ≤ (x : Int) := Int.natCast_nonneg _
      have hx1 : (x : Int) < (nm : Int) := by omega
      have hy0 : (0 : Int) ≤ (y : Int) := Int.natCast_nonneg _
      have hy1 : (y : Int) < (nm : Int) := by omega
      have hk1 : (k : Int) < (L : Int) := by omega
      have hkw : IntKind.i64.wrap ((k : Int) + 1) = (k : Int) + 1 := IntWalk.i64_in _ (by omega)
      clear hcq hcB hkp har hfr hx hyy hy har1
      go_wp2
      go_roundw
      case rel => exact ⟨k + 1, by omega, by go_num, below_set (below_set hbr (by omega) _) (by omega) _, (HKP.out.set _ _).set _ _, by
        have h1 := (HAR.out.seti x (k + 1)).seti y (k + 1)
        have e : lbK pM q (k + 1) = upd (upd (lbK pM q k) x (k + 1)) y (k + 1) := by
          show upd (upd (lbK pM q k) (q.getD k 0).toNat (k + 1)) (pM (q.getD k 0).toNat) (k + 1) = _
          rw [HX.out, Int.toNat_natCast, HY.out]
        rw [e]
        exact h1⟩
      case measure => simp [intOf]; omega
    · obtain rfl : L = k := by omega
      have HAR := Lib.hid har
      clear har hkp
      go_wp2
      go_ret
      exact ⟨_, rfl, by have := HAR.out; rw [HLB.out] at this; exact this, by omega, hbr⟩

end Go.Proofs.YtebliaclleplgaaDoor
