import Derived.Test.YtebliaclleplgaaA09
import Derived.Test.YtebliaclleplgaaA12
import Derived.Test.YtebliaclleplgaaA11
import Derived.Test.YtebliaclleplgaaA13
/- Walk: all lists of signs with which a code can be drawn. -/
namespace Go.Proofs.Ytebliaclleplgaa
open Go.ChangeShapes Go.WideShapes Go.ChangeAt Go.RowKit Go.Joins

theorem mkM_rangeS {code s : List Int} {n : Nat} (h : dvB code = true) (hn : code.length = n) (hs : sgnsB s = true) (hl : s.length = n) (j : Nat) : -9223372036854775808 ≤ mt (mkM code s) j ∧ mt (mkM code s) j ≤ 9223372036854775807 := by
  have hlen := mkM_len (code := code) (s := s) hn
  have h64 := ((dvB_iff code).1 h).2.1
  rcases Nat.lt_or_ge j (4 * n) with hj | hj
  · have hm := matesOf_mates (pair_mk h hn hs hl) hlen j hj
    unfold mt
    rw [hm.1]
    omega
  · have e : mt (mkM code s) j = 0 := by unfold mt; simp [List.getD, show (mkM code s).length ≤ j by omega]
    rw [e]; omega

set_option maxHeartbeats 6400000 in
set_option maxRecDepth 100000 in
theorem all_any (C : Option Addr) (n cc : Nat) (code : List Int) (w : World) (hC : RI w C n code) (h7 : n ≤ 7) (hI : inL code) (hv : dvB code = true) :
    Calls Try.prog 10 #[.slice C n cc] w (CycsPost w (allK code n (2 ^ n))) := by
  have hl := hC.1
  have hpos : 0 < n := by have := (dvB_iff code).1 hv; omega
  have h2n : 2 ^ n ≤ 128 := Nat.le_trans (Nat.pow_le_pow_right (by decide) h7) (by decide)
  obtain ⟨N, hN⟩ : ∃ N, 2 ^ n = N := ⟨_, rfl⟩
  have HN := Lib.hid hN
  rw [hN] at h2n ⊢
  have HC := Lib.hid hC
  have HI := Lib.hid hI
  have HV := Lib.hid hv
  have HL := Lib.hid hl
  clear hC hI hv hl
  have hn1 : (n : Int) ≤ 7 := by omega
  have hn0 : 0 < (n : Int) := by omega
  have hN1 : (N : Int) ≤ 128 := by omega
  have hcv : IntKind.u64.wrap (n : Int) = (n : Int) := by rw [IntKind.wrap_u64]; omega
  have hsh : (1 : Int) * 2 ^ n = (N : Int) := by rw [← hN]; simp
  have hsh2 : (2 : Int) ^ n = (N : Int) := by rw [← hN]; simp
  have hwN : IntKind.i64.wrap (N : Int) = (N : Int) := IntWalk.i64_in _ (by omega)
  clear hN
  go_enter Try.func10, Try.ntmps10
  go_wp2
  go_loopw [4, 5, 6, 7] (fun v b _ _ wr => ∃ k : Nat, k ≤ N ∧ b = .int .i64 k ∧ Below w.heap.size w wr ∧ OO wr w.heap.size v (allK code n k)) (fun _ b _ _ _ => N - (intOf b).toNat)
  case atStart => exact ⟨0, by omega, rfl, Below.refl _ _, OO.nil _ _⟩
  case round =>
    obtain ⟨k, hk, rfl, hbr, hoo⟩ := hrel
    by_cases hlt : k < N
    · have hk0 : (0 : Int) ≤ (k : Int) := Int.natCast_nonneg _
      have hk1 : (k : Int) < (N : Int) := by omega
      obtain ⟨wC, hwC⟩ : ∃ wC : World, wC = wr := ⟨_, rfl⟩
      subst hwC
      have HOO := Lib.hid hoo
      clear hoo
      go_wp2
      go_loopw [6, 7] (fun v i wr => ∃ j : Nat, j ≤ n ∧ i = .int .i64 j ∧ Below wC.heap.size wC wr ∧ OI wr wC.heap.size v ((bitL n k).take j)) (fun _ i _ => n - (intOf i).toNat)
      case atStart => exact ⟨0, by omega, rfl, Below.refl _ _, OI.nil _ _⟩
      case round =>
        obtain ⟨j, hj, rfl, hbj, hoi⟩ := hrel
        by_cases hjl : j < n
        · obtain ⟨d, hd⟩ : ∃ d, n - 1 - j = d := ⟨_, rfl⟩
          have hdi : (n : Int) - 1 - (j : Int) = (d : Int) := by omega
          have hcd : IntKind.u64.wrap (d : Int) = (d : Int) := by rw [IntKind.wrap_u64]; omega
          have hd63 : (d : Int) < 64 := by omega
          have htake : (bitL n k).take (j + 1) = (bitL n k).take j ++ [if k / 2 ^ d % 2 = 0 then 1 else -1] := by
            rw [List.take_succ_eq_append_getElem (by rw [bitL_length]; exact hjl)]
            congr 2
            rw [← hd]; simp [bitL]
          have htl : ((bitL n k).take j).length ≤ 7 := by rw [List.length_take]; omega
          have HOI := Lib.hid hoi
          have hj0 : (0 : Int) ≤ (j : Int) := Int.natCast_nonneg _
          have hj1 : (j : Int) < (n : Int) := by omega
          have hd0 : (0 : Int) ≤ (d : Int) := Int.natCast_nonneg _
          have hz : (k : Int) / 2 ^ d = ((k / 2 ^ d : Nat) : Int) := by simp
          by_cases hb : k / 2 ^ d % 2 = 0
          · have hbit : (((k : Int) / 2 ^ d).tmod 2 == 0) = true := by
              rw [hz, Int.tmod_eq_emod_of_nonneg (Int.natCast_nonneg _)]
              generalize k / 2 ^ d = z at hb
              simp; omega
            rw [if_pos hb] at htake
            have HTK := Lib.hid htake
            clear htake hoi hd hb hz
            go_wp2_with (at_builtin
                         refine wpList_append_int rfl (.tmp 31) (.tmp 32) rfl wC.heap.size u6 ((bitL n k).take j) rfl (HOI.out.alloc _) wr.heap.size (1) rfl (by rw [World.cell?_alloc_at _ _ _ _ rfl]; rfl) (by omega) (by have := hbj.size; simp; omega) ?_
                         intro v7 w7 ho7 hg7
                         have hb7 : Below wC.heap.size wC w7 := (hbj.alloc hbj.size (.cells #[.int .i64 (1)] 3)).grown hg7 (by have := hbj.size; simp; omega) (fun q hq => (World.ownsRow.lt HOI.out q hq).1)
                         have HO7 := Lib.hid ho7
                         clear ho7 hg7)
            go_roundw
            case rel => exact ⟨j + 1, by omega, by go_num, hb7, by rw [HTK.out]; exact HO7.out⟩
            case measure => simp [intOf]; omega
          · have hbit : (((k : Int) / 2 ^ d).tmod 2 == 0) = false := by
              rw [hz, Int.tmod_eq_emod_of_nonneg (Int.natCast_nonneg _)]
              generalize k / 2 ^ d = z at hb
              simp; omega
            rw [if_neg hb] at htake
            have HTK := Lib.hid htake
            clear htake hoi hd hb hz
            go_wp2_with (at_builtin
                         refine wpList_append_int rfl (.tmp 34) (.tmp 35) rfl wC.heap.size u6 ((bitL n k).take j) rfl (HOI.out.alloc _) wr.heap.size (-1) rfl (by rw [World.cell?_alloc_at _ _ _ _ rfl]; rfl) (by omega) (by have := hbj.size; simp; omega) ?_
                         intro v7 w7 ho7 hg7
                         have hb7 : Below wC.heap.size wC w7 := (hbj.alloc hbj.size (.cells #[.int .i64 (-1)] 3)).grown hg7 (by have := hbj.size; simp; omega) (fun q hq => (World.ownsRow.lt HOI.out q hq).1)
                         have HO7 := Lib.hid ho7
                         clear ho7 hg7)
            go_roundw
            case rel => exact ⟨j + 1, by omega, by go_num, hb7, by rw [HTK.out]; exact HO7.out⟩
            case measure => simp [intOf]; omega
        · obtain rfl : j = n := by omega
          rw [List.take_of_length_le (by rw [bitL_length]; exact Nat.le_refl _)] at hoi
          obtain ⟨g6, c6, rfl⟩ := hoi.form_pos (bitL_length j k) hpos
          have hsg := bitL_sg j k
          have hln := bitL_length j k
          have hri := hoi.ri
          have hkv := allK_succ code j k
          have hbw : Below w.heap.size w wr := hbr.trans (hbj.mono hbr.size)
          have CD := Lib.hid (rdrawn_any (some ⟨g6, 0, none⟩) C j c6 cc code (bitL j k) wr (HC.out.keep hbw) hri (by omega) HI.out HV.out hsg)
          have hrange := mkM_rangeS HV.out HL.out hsg hln
          have HRG := Lib.hid hrange
          have HKV := Lib.hid hkv
          have HOI := Lib.hid hoi
          have hoo2 := HOO.out.keep hbj
          have HOO2 := Lib.hid hoo2
          have hlen := allK_le code j k
          obtain ⟨l, hll⟩ : ∃ l, bitL j k = l := ⟨_, rfl⟩
          have hnl : ¬ j < j := by omega
          cases hvv : dkV code (bitL j k) with
          | false =>
            have CV : ∀ (W : World) (S : Option Addr) (sc gM : Nat), RI W S j (bitL j k) → RI W (some ⟨gM, 0, none⟩) (4 * j) (mkM code (bitL j k)) → Hid (Calls Try.prog 17 #[dval S j sc (some ⟨gM, 0, none⟩) (4 * j) (4 * j) 0] W fun e w' => e = .returned (.bool false) ∧ Below W.heap.size W w') := fun W S sc gM h1 h2 =>
              DV.rvalid ⟨h1, h2, by omega, by omega, fun i _ => HRG.out i⟩ sc (4 * j) 0 false hvv
            have HE : Hid (allK code j (k + 1) = allK code j k) := Lib.hid (by rw [HKV.out, hvv]; simp)
            clear hvv hkv hsg hln hri hrange hoi hoo2 hll hjl hj hnl
            go_wp2_with (first
              | (go_at_call 24; ((with_reducible refine CD.out.mono ?_); rintro e w2 ⟨S2, sc2, gM2, rfl, h1, h2, hb2⟩))
              | (go_at_call 17; ((with_reducible refine (CV _ _ _ _ h1 h2).out.mono ?_); rintro e w3 ⟨rfl, hb3⟩)))
            go_roundw
            case rel => exact ⟨k + 1, by omega, by go_num, below_step (below_step hbw hb2) hb3, by rw [HE.out]; exact (HOO2.out.keep hb2).keep hb3⟩
            case measure => simp [intOf]; omega
          | true =>
            have CV : ∀ (W : World) (S : Option Addr) (sc gM : Nat), RI W S j (bitL j k) → RI W (some ⟨gM, 0, none⟩) (4 * j) (mkM code (bitL j k)) → Hid (Calls Try.prog 17 #[dval S j sc (some ⟨gM, 0, none⟩) (4 * j) (4 * j) 0] W fun e w' => e = .returned (.bool true) ∧ Below W.heap.size W w') := fun W S sc gM h1 h2 =>
              DV.rvalid ⟨h1, h2, by omega, by omega, fun i _ => HRG.out i⟩ sc (4 * j) 0 true hvv
            have HE : Hid (allK code j (k + 1) = allK code j k ++ [bitL j k]) := Lib.hid (by rw [HKV.out, hvv]; simp)
            have HSZ := Lib.hid hbr.size
            clear hvv hkv hsg hln hri hrange hoi hoo2 hll hjl hj hnl
            go_wp2_with (first
              | (go_at_call 24; ((with_reducible refine CD.out.mono ?_); rintro e w2 ⟨S2, sc2, gM2, rfl, h1, h2, hb2⟩; have hbw2 := below_step hbw hb2; have HO2 := Lib.hid (HOI.out.keep hb2); have HR2 := Lib.hid (HOO2.out.keep hb2)))
              | (go_at_call 17; ((with_reducible refine (CV _ _ _ _ h1 h2).out.mono ?_); rintro e w3 ⟨rfl, hb3⟩; have hbw3 := below_step hbw2 hb3; have HO3 := Lib.hid (HO2.out.keep hb3); have HR3 := Lib.hid (HR2.out.keep hb3)))
              | (at_builtin
                 refine wpList_append_row rfl (.tmp 41) (.tmp 43) rfl w.heap.size u4 (allK code j k) rfl (HR3.out.keep (below_alloc _ _)) w3.heap.size (.slice (some ⟨g6, 0, none⟩) j c6) (bitL j k) rfl (by rw [World.cell?_alloc_at _ _ _ _ rfl]; rfl) ((HO3.out.mono HSZ.out).alloc _) (by omega) (by have := hbw3.size; simp; omega) ?_
                 intro v4 w4 ho4 hg4
                 have hb4 : Below w.heap.size w w4 := (hbw3.alloc hbw3.size (.cells #[.slice (some ⟨g6, 0, none⟩) j c6] 22)).grown hg4 (by have := hbw3.size; simp; omega) (fun q hq => (HR3.out.lt q hq).1)))
            go_roundw
            case rel => exact ⟨k + 1, by omega, by go_num, hb4, by rw [HE.out]; exact ho4⟩
            case measure => simp [intOf]; omega
    · obtain rfl : k = N := by omega
      have HOO := Lib.hid hoo
      clear hoo hlt hk
      go_wp2
      go_ret
      exact ⟨_, rfl, HOO.out, hbr⟩

end Go.Proofs.Ytebliaclleplgaa

/- Walks of the reference: Strand, Strands, Graph, Components. -/
namespace Go.Proofs.Ytebliaclleplgaa
open Go.RowKit

set_option maxHeartbeats 1600000 in
set_option maxRecDepth 100000 in
theorem rstrand_any (A B : Option Addr) (ns cs nm cm : Nat) (lp : Int) (h : Nat) (mate : List Int) (m : Nat → Nat) (w : World) (hm : RI w B nm mate) (hmm : Mates mate nm m) (hp : Perm (fs m) nm) (hh : h < nm) (hN : nm ≤ 256) (x : Int) (hx : x = (h : Nat)) :
    Calls Try.prog 31 #[dval A ns cs B nm cm lp, .int .i64 x] w (CycPost w (itl (fs m) h (per (fs m) nm h))) := by
  subst hx
  have hbx := below_alloc w (dbox A ns cs B nm cm lp)
  have h1 := (OI.one (w.alloc (dbox A ns cs B nm cm lp)) (w.alloc (dbox A ns cs B nm cm lp)).heap.size h (Nat.le_refl _)).mono (Nat.le_refl (w.alloc (dbox A ns cs B nm cm lp)).heap.size)
  have hb1 := below_step hbx (below_alloc (w.alloc (dbox A ns cs B nm cm lp)) (.cells #[.int .i64 (h : Int)] 3))
  have hdb := (DB.new w A ns cs B nm cm lp).keep (below_alloc _ (.cells #[.int .i64 (h : Int)] 3))
  have hszx : (w.alloc (dbox A ns cs B nm cm lp)).heap.size = w.heap.size + 1 := by simp
  rw [hszx] at h1
  clear hszx
  obtain ⟨b, off, rfl, hbb, hc⟩ := hm.2 (by omega)
  have HM := Lib.hid hmm
  have HC := Lib.hid hc
  obtain ⟨hmh, hml⟩ := hmm h hh
  have hc0 := (hb1.cell (p := ⟨b, off + h, none⟩) hbb).trans (hc h hh)
  rw [hmh] at hc0
  have HP := Lib.hid hp
  have CT := Lib.hid (rturn_opp (m h) (by omega) ((w.alloc (dbox A ns cs (some ⟨b, off, none⟩) nm cm lp)).alloc (.cells #[.int .i64 (h : Int)] 3)))
  obtain ⟨x0, x1, x2, xlt⟩ := hdb
  have hxlt : w.heap.size < w.heap.size + 1 := by omega
  have hfs : fs m h = trn (m h) 2 := rfl
  rw [← hfs] at CT
  have hh0 : (0 : Int) ≤ (h : Int) := Int.natCast_nonneg _
  have hh1 : (h : Int) < (nm : Int) := by omega
  clear hp hmm hc hm hmh hfs hbx
  go_enter Try.func31, Try.ntmps31
  go_wp2_with (go_at_call 46; ((with_reducible refine CT.out.mono ?_); rintro e w1 ⟨rfl, rfl⟩))
  generalize hwA : (w.alloc (dbox A ns cs (some ⟨b, off, none⟩) nm cm lp)).alloc (.cells #[.int .i64 (h : Int)] 3) = wA at h1 hb1 x0 x1 x2 xlt hc0 ⊢
  clear hwA
  go_loopg [5, 6] (per (fs m) nm h - 1) (fun n v g wr => ∃ i : Nat, 0 < i ∧ n + i = per (fs m) nm h ∧ g = .int .i64 (it (fs m) i h : Nat) ∧ Below (w.heap.size + 1) wA wr ∧ OI wr (w.heap.size + 1) v (itl (fs m) h i))
  case atStart => exact ⟨1, by omega, by have := per_pos (fs m) nm h; omega, rfl, Below.refl _ _, h1⟩
  case round =>
    obtain ⟨i, hi0, hi, rfl, hbr, hown⟩ := hrel
    have y1 := (hbr.cell (p := ⟨w.heap.size, 1, none⟩) hxlt).trans x1
    have hszr := hbr.size
    have hgl := HP.out.it_lt hh i
    have hpn := (HP.out.per_spec hh).2.1
    have hlen := itl_length (fs m) h i
    obtain ⟨gv, cv, rfl⟩ := hown.form_pos hlen hi0
    by_cases hil : i < per (fs m) nm h
    · have hne : ((it (fs m) i h : Int) != (h : Int)) = true := by
        have := (HP.out.per_spec hh).2.2 i hi0 hil
        simp only [bne_iff_ne, ne_eq]; omega
      have HI := Lib.hid hi
      have hsucc := itl_succ (fs m) h i
      have hil' : (itl (fs m) h i).length ≤ 1000000000 := by omega
      have HIT := Lib.hid (show it (fs m) (i + 1) h = trn (m (it (fs m) i h)) 2 from rfl)
      have HSU := Lib.hid hsucc
      have hle : (i : Int) ≤ (nm : Int) := by omega
      obtain ⟨hmx, hmxl⟩ := HM.out _ hgl
      have HCX := Lib.hid (show wA.cell? ⟨b, off + it (fs m) i h, none⟩ = some (.int .i64 (m (it (fs m) i h) : Nat)) from by rw [← hmx, ← HC.out _ hgl]; exact hb1.cell (p := ⟨b, off + it (fs m) i h, none⟩) hbb)
      clear hi hlen hsucc hmx
      generalize itl (fs m) h i = xs at *
      generalize it (fs m) i h = x at *
      generalize hmxx : m x = y at *
      clear hmxx
      have hx0 : (0 : Int) ≤ (x : Int) := Int.natCast_nonneg _
      have hx1 : (x : Int) < (nm : Int) := by omega
      go_wp2_with (first
        | (at_builtin
           refine wpList_append_int rfl (.tmp 32) (.tmp 34) rfl (w.heap.size + 1) _ xs rfl (hown.alloc _) wr.heap.size (x : Int) rfl (by rw [World.cell?_alloc_at _ _ _ _ rfl]; rfl) hil' (by simp; omega) ?_
           intro v2 w2 hown2 hg2
           have hb2 : Below (w.heap.size + 1) wA w2 := (hbr.alloc (by omega) _).grown hg2 (by simp; omega) (fun k hk => (World.ownsRow.lt hown k hk).1)
           have y2 := (hb2.cell (p := ⟨w.heap.size, 1, none⟩) hxlt).trans x1
           have hcx := (hb2.cell (p := ⟨b, off + x, none⟩) (by show b < w.heap.size + 1; omega)).trans HCX.out
           have C1 := Lib.hid (rturn_opp y (by omega) w2))
        | (go_at_call 46; ((with_reducible refine C1.out.mono ?_); rintro e w3 ⟨rfl, rfl⟩)))
      go_roundg (gk - 1)
      case measure => have := HI.out; omega
      case rel => exact ⟨i + 1, by omega, by have := HI.out; omega, by rw [HIT.out], hb2, by rw [HSU.out]; exact hown2⟩
    · have hip : i = per (fs m) nm h := by omega
      have hret : it (fs m) i h = h := by rw [hip]; exact (HP.out.per_spec hh).1
      rw [hret]
      rw [hip] at hown
      have HF := Lib.hid (show CycPost w (itl (fs m) h (per (fs m) nm h)) (.returned (.slice (some ⟨gv, 0, none⟩) i cv)) wr from ⟨_, rfl, by rw [hip]; exact hown.mono (Nat.le_succ _), hb1.trans (hbr.mono (Nat.le_succ _))⟩)
      clear hret hip hil hi hlen hown
      go_wp2
      go_ret
      exact HF.out

set_option maxHeartbeats 1600000 in
set_option maxRecDepth 100000 in
theorem rstrands_any (A B : Option Addr) (ns cs nm cm : Nat) (lp : Int) (signs mate : List Int) (m : Nat → Nat) (w : World) (hs : RI w A ns signs) (hnm : nm = 4 * ns) (hm : RI w B nm mate) (hmm : Mates mate nm m) (hp : Perm (fs m) nm) (hN : nm ≤ 256) (hout : ∀ h, h < nm → outB signs h = true → outB signs (fs m h) = true) :
    Calls Try.prog 18 #[dval A ns cs B nm cm lp] w (CycsPost w (cycL (fs m) nm (outB signs) nm)) := by
  have HP := Lib.hid hp
  have HMM := Lib.hid hmm
  have HNM := Lib.hid hnm
  have hbx := below_alloc w (dbox A ns cs B nm cm lp)
  obtain ⟨x0, x1, x2, xlt⟩ := DB.new w A ns cs B nm cm lp
  have hszA : (w.alloc (dbox A ns cs B nm cm lp)).heap.size = w.heap.size + 1 := by simp
  have hsel : ∀ k, k < nm → outB signs k = true → sel (fs m) nm (outB signs) k = (List.range (per (fs m) nm k)).all (fun q => decide (k ≤ it (fs m) q k)) := fun k hk ho => by
    have hito : ∀ i, outB signs (it (fs m) i k) = true := fun i => by
      induction i with
      | zero => exact ho
      | succ i ih => exact hout _ (hp.it_lt hk i) ih
    unfold sel cyc
    rw [ho, Bool.true_and, List.all_map]
    congr 1
    funext i
    simp [hito i]
  have hsel0 : ∀ k, outB signs k = false → sel (fs m) nm (outB signs) k = false := fun k h => by simp [sel, h]
  have HSEL := Lib.hid hsel
  have HSEL0 := Lib.hid hsel0
  clear hp hmm hnm hsel hsel0 hout
  go_enter Try.func18, Try.ntmps18
  go_wp2
  generalize hwA : w.alloc (dbox A ns cs B nm cm lp) = wA at hbx x0 x1 x2 xlt hszA ⊢
  clear hwA
  have hxlt : w.heap.size < w.heap.size + 1 := by omega
  go_loopw [3, 4, 5, 6, 7] (fun v i _ _ _ wr => ∃ k : Nat, k ≤ nm ∧ i = .int .i64 k ∧ Below (w.heap.size + 1) wA wr ∧ OO wr (w.heap.size + 1) v (cycL (fs m) nm (outB signs) k)) (fun _ i _ _ _ _ => nm - (intOf i).toNat)
  case atStart => exact ⟨0, by omega, rfl, Below.refl _ _, OO.nil _ _⟩
  case round =>
    obtain ⟨k, hk, rfl, hbr, hown⟩ := hrel
    have hszr := hbr.size
    have hbW : Below w.heap.size w wr := hbx.trans (hbr.mono (Nat.le_succ _))
    have y0 := (hbr.cell (p := ⟨w.heap.size, 0, none⟩) hxlt).trans x0
    have y1 := (hbr.cell (p := ⟨w.heap.size, 1, none⟩) hxlt).trans x1
    have y2 := (hbr.cell (p := ⟨w.heap.size, 2, none⟩) hxlt).trans x2
    by_cases hlt : k < nm
    · have CF := Lib.hid (rstrand_any A B ns cs nm cm lp k mate m wr (hm.keep hbW) HMM.out HP.out hlt hN _ rfl)
      have CO := Lib.hid (rout_any A ns cs signs k wr (hs.keep hbW) (by have := HNM.out; omega) (by have := HNM.out; omega))
      have hpn := (HP.out.per_spec hlt).2.1
      have hk0 : (0 : Int) ≤ (k : Int) := Int.natCast_nonneg _
      have hk1 : (k : Int) < (nm : Int) := by omega
      cases ho : outB signs k with
      | false =>
       rw [ho] at CO
       have hcy := cycL_succ (fs m) nm (outB signs) k
       rw [HSEL0.out k ho] at hcy
       have HO := Lib.hid (show OO wr (w.heap.size + 1) u3 (cycL (fs m) nm (outB signs) (k + 1)) from by rw [hcy]; simpa using hown)
       clear hcy hown ho
       go_wp2_with (go_at_call 28; ((with_reducible refine CO.out.mono ?_); rintro e w' ⟨rfl, rfl⟩))
       go_roundw
       case rel => exact ⟨k + 1, by omega, by go_num, hbr, HO.out⟩
       case measure => simp [intOf]; omega
      | true =>
        rw [ho] at CO
        go_wp2_with (first
         | (go_at_call 28; ((with_reducible refine CO.out.mono ?_); rintro e w' ⟨rfl, rfl⟩))
         | (go_at_call 31; ((with_reducible refine CF.out.mono ?_); rintro e w2 ⟨vm, rfl, hom, hb2⟩; obtain ⟨gm, cpm, rfl⟩ := hom.form_pos (itl_length (fs m) k (per (fs m) nm k)) (per_pos (fs m) nm k))))
        have hbw2 : Below (w.heap.size + 1) wA w2 := hbr.trans (hb2.mono (by omega))
        have hown2 := hown.keep hb2
        clear hown hb2 hbr CF CO hbW y0 y1 y2
        go_loop [6, 7] (fun l i => ∃ j : Nat, j ≤ per (fs m) nm k ∧ i = .int .i64 j ∧ l = .bool ((List.range j).all (fun q => decide (k ≤ it (fs m) q k)))) (fun _ i => per (fs m) nm k - (intOf i).toNat)
        case atStart => exact ⟨0, by omega, rfl, rfl⟩
        case round =>
          obtain ⟨j, hj, rfl, rfl⟩ := hrel
          by_cases hjl : j < per (fs m) nm k
          · have hcm : w2.cell? ⟨gm, j, none⟩ = some (.int .i64 (it (fs m) j k : Nat)) := by
              have := hom.cell j (by rw [itl_length]; exact hjl)
              rwa [itl_getD _ _ _ _ hjl] at this
            have HAS := Lib.hid (all_range_succ (fun q => decide (k ≤ it (fs m) q k)) j)
            have hit := HP.out.it_lt hlt j
            generalize it (fs m) j k = x at *
            have hx0 : (0 : Int) ≤ (x : Int) := Int.natCast_nonneg _
            have hj0 : (0 : Int) ≤ (j : Int) := Int.natCast_nonneg _
            have hj1 : (j : Int) < (per (fs m) nm k : Int) := by omega
            generalize hall : (List.range j).all (fun q => decide (k ≤ it (fs m) q k)) = a at *
            clear hall
            cases a with
            | false =>
              go_wp2
              go_round
              case rel => exact ⟨j + 1, by omega, by go_num, by rw [HAS.out]; simp⟩
              case measure => simp [intOf]; omega
            | true =>
              by_cases hkx : k ≤ x
              · have hd : decide (k ≤ x) = true := by simp [hkx]
                have hd' : decide ((k : Int) ≤ (x : Int)) = true := by simp [hkx]
                go_wp2
                go_round
                case rel => exact ⟨j + 1, by omega, by go_num, by rw [HAS.out]; simp [hkx]⟩
                case measure => simp [intOf]; omega
              · have hd : decide (k ≤ x) = false := by simp [hkx]
                have hd' : decide ((k : Int) ≤ (x : Int)) = false := by simp; omega
                go_wp2
                go_round
                case rel => exact ⟨j + 1, by omega, by go_num, by rw [HAS.out]; simp [hkx]⟩
                case measure => simp [intOf]; omega
          · obtain rfl : j = per (fs m) nm k := by omega
            have hcy := cycL_succ (fs m) nm (outB signs) k
            rw [HSEL.out k hlt ho] at hcy
            have hlen := cycL_length (fs m) nm (outB signs) k
            have hsz := hbw2.size
            have hom' := hom.mono (B' := w.heap.size + 1) (by omega)
            cases hall : (List.range (per (fs m) nm k)).all (fun q => decide (k ≤ it (fs m) q k)) with
            | false =>
              rw [hall] at hcy
              have hcy' : cycL (fs m) nm (outB signs) (k + 1) = cycL (fs m) nm (outB signs) k := by rw [hcy]; simp
              have HO := Lib.hid (show OO w2 (w.heap.size + 1) u3 (cycL (fs m) nm (outB signs) (k + 1)) from by rw [hcy']; exact hown2)
              clear hcy hcy' hown2 hall
              go_wp2
              go_roundw
              case rel => exact ⟨k + 1, by omega, by go_num, hbw2, HO.out⟩
              case measure => simp [intOf]; omega
            | true =>
              rw [hall] at hcy
              have HCY := Lib.hid (show cycL (fs m) nm (outB signs) (k + 1) = cycL (fs m) nm (outB signs) k ++ [itl (fs m) k (per (fs m) nm k)] from by rw [hcy]; simp)
              clear hcy hall
              go_wp2_with (at_builtin
                           refine wpList_append_row rfl (.tmp 39) (.tmp 41) rfl (w.heap.size + 1) u3 (cycL (fs m) nm (outB signs) k) rfl (hown2.keep (below_alloc _ _)) w2.heap.size (.slice (some ⟨gm, 0, none⟩) (per (fs m) nm k) cpm) (itl (fs m) k (per (fs m) nm k)) rfl (by rw [World.cell?_alloc_at _ _ _ _ rfl]; rfl) (hom'.alloc _) (by omega) (by simp; omega) ?_
                           intro v2 w3 ho2 hg2)
              go_roundw
              case rel => exact ⟨k + 1, by omega, by go_num, (hbw2.alloc (by omega) _).grown hg2 (by simp; omega) (fun q hq => (hown2.lt q hq).1), by rw [HCY.out]; exact ho2⟩
              case measure => simp [intOf]; omega
    · obtain rfl : k = nm := by omega
      clear hlt hk hm
      go_wp2
      go_ret
      exact ⟨_, rfl, hown.mono (Nat.le_succ _), hbW⟩

end Go.Proofs.Ytebliaclleplgaa

/- Walk: knot. -/
namespace Go.Proofs.Ytebliaclleplgaa
open Go.ChangeShapes Go.WideShapes Go.ChangeAt Go.RowKit Go.Joins

theorem mtd_in {m : List Int} (h : ∀ z ∈ m, inI z) (j : Nat) : -9223372036854775808 ≤ mt m j ∧ mt m j ≤ 9223372036854775807 := inL_of h j
theorem dvd_small {w : World} {A B : Option Addr} {ns nm : Nat} {s m : List Int} (hs : RI w A ns s) (hm : RI w B nm m) (hmI : ∀ z ∈ m, inI z) (h1 : ns ≤ 1000) (h2 : nm ≤ 100000000000000) : DV w A ns B nm s m :=
  ⟨hs, hm, by omega, h2, fun j _ => mtd_in hmI j⟩
theorem strands_call {W : World} {A B : Option Addr} {ns nm : Nat} {s m : List Int} {lp : Int} (cs cm : Nat) (h : DV W A ns B nm s m) (hv : validB s m lp = true) :
    Calls Try.prog 18 #[dval A ns cs B nm cm lp] W (CycsPost W (strandsM s m lp)) := by
  have F := bk_facts hv
  have hlm := h.hm.1
  have hls := h.hs.1
  have hl := F.lm
  have hle := F.le
  have hmm := matesOf_mates F.pr hlm
  have hp : Perm (fs (matesOf m)) nm := by rw [← hlm]; exact F.p
  have e : strandsM s m lp = cycL (fs (matesOf m)) nm (outB s) nm := by unfold strandsM; rw [if_pos hv, hlm]
  rw [e]
  exact rstrands_any A B ns cs nm cm lp s m (matesOf m) W h.hs (by omega) h.hm hmm hp (by omega) (fun x hx ho => out_closed F.sg F.pr hlm hls (by omega) x hx ho)

set_option maxHeartbeats 3200000 in
set_option maxRecDepth 100000 in
theorem knot_r (r : Bool) (A B : Option Addr) (ns cs nm cm : Nat) (lp most : Int) (s m : List Int) (w : World) (h : DV w A ns B nm s m) (hv : validB s m lp = true) (h1 : 1 ≤ ns) (h2 : (ns : Int) ≤ most) (hr : r = decide (lp = 0 ∧ (strandsM s m lp).length = 1)) :
    Calls Try.prog 6 #[dval A ns cs B nm cm lp, .int .i64 most] w fun e w' => e = .returned (.bool r) ∧ Below w.heap.size w w' := by
  have hd := DB.new w A ns cs B nm cm lp
  obtain ⟨d0, d1, d2, dlt⟩ := hd
  have hb0 := below_alloc w (dbox A ns cs B nm cm lp)
  have HDV := Lib.hid (h.keep hb0)
  have CV := Lib.hid (HDV.out.rvalid cs cm lp true hv)
  have CS : ∀ W, Below (w.alloc (dbox A ns cs B nm cm lp)).heap.size (w.alloc (dbox A ns cs B nm cm lp)) W → Hid (Calls Try.prog 18 #[dval A ns cs B nm cm lp] W (CycsPost W (strandsM s m lp))) := fun W hb => strands_call cs cm (HDV.out.keep hb) hv
  have hlen := strandsM_le (signs := s) (mate := m) (lp := lp)
  have hml : m.length ≤ 256 := by have F := bk_facts hv; have := F.lm; have := F.le; omega
  have hn1 : 1 ≤ (ns : Int) := by omega
  have HR := Lib.hid hr
  obtain ⟨xss, hx⟩ : ∃ xss, strandsM s m lp = xss := ⟨_, rfl⟩
  simp only [hx] at CS hlen
  rw [hx] at HR
  have hl0 : (0 : Int) ≤ (xss.length : Int) := Int.natCast_nonneg _
  have hl1 : (xss.length : Int) ≤ 256 := by omega
  clear h hv hr hx hlen hml
  by_cases hz : lp = 0
  · have hz' : (lp == 0) = true := by simpa using hz
    have HZ := Lib.hid hz
    have HB : Hid (((xss.length : Int) == 1) = r) := Lib.hid (by
      rw [HR.out, HZ.out]
      by_cases q : xss.length = 1
      · simp [q]
      · have : ((xss.length : Int) == 1) = false := by simp; omega
        rw [this]; simp [q])
    clear hz
    go_enter Try.func6, Try.ntmps6
    go_wp2_with (first
      | (go_at_call 17; ((with_reducible refine CV.out.mono ?_); rintro e w1 ⟨rfl, hb1⟩; have e0 := (hb1.cell (p := ⟨w.heap.size, 0, none⟩) dlt).trans d0; have e1 := (hb1.cell (p := ⟨w.heap.size, 1, none⟩) dlt).trans d1; have e2 := (hb1.cell (p := ⟨w.heap.size, 2, none⟩) dlt).trans d2))
      | (go_at_call 18; ((with_reducible refine (CS _ hb1).out.mono ?_); rintro e w2 ⟨v2, rfl, ho, hb2⟩; obtain ⟨A2, c2, rfl, hro⟩ := ho.ro)))
    go_ret
    exact ⟨ret_bool HB.out, below_step (below_step hb0 hb1) hb2⟩
  · have hz' : (lp == 0) = false := by simpa using hz
    have HB : Hid (false = r) := Lib.hid (by rw [HR.out]; simp [hz])
    clear hz
    go_enter Try.func6, Try.ntmps6
    go_wp2_with (first
      | (go_at_call 17; ((with_reducible refine CV.out.mono ?_); rintro e w1 ⟨rfl, hb1⟩; have e0 := (hb1.cell (p := ⟨w.heap.size, 0, none⟩) dlt).trans d0; have e1 := (hb1.cell (p := ⟨w.heap.size, 1, none⟩) dlt).trans d1; have e2 := (hb1.cell (p := ⟨w.heap.size, 2, none⟩) dlt).trans d2))
      | (go_at_call 18; ((with_reducible refine (CS _ hb1).out.mono ?_); rintro e w2 ⟨v2, rfl, ho, hb2⟩; obtain ⟨A2, c2, rfl, hro⟩ := ho.ro)))
    go_ret
    exact ⟨ret_bool HB.out, below_step hb0 hb1⟩
theorem knot_iff {s m : List Int} {lp : Int} (hv : validB s m lp = true) (h1 : 1 ≤ s.length) : (lp = 0 ∧ (strandsM s m lp).length = 1) ↔ ¬ 1 < compM s m lp := by
  constructor
  · rintro ⟨a, b⟩; rw [compM_add hv, b, a]; decide
  · intro h
    obtain ⟨a, st, b, _⟩ := knot_one hv h1 (by omega)
    exact ⟨a, by rw [b]; rfl⟩
theorem of_e (A B : Option Addr) (ns cs nm cm : Nat) (lp : Int) (s m : List Int) (W : World) (h : DV W A ns B nm s m) (E : Int) (L : List Int) (he : ofE s m lp = E) (hl : ofL s m lp = L) :
    Calls Try.prog 7 #[dval A ns cs B nm cm lp] W fun e w' => ∃ A' c, e = .returned (.tuple #[.slice A' L.length c, .int .i64 E]) ∧ RI w' A' L.length L ∧ Below W.heap.size W w' := by
  refine (dof_any A B ns cs nm cm lp s m W h).mono ?_
  rintro e w' ⟨A', n', c, rfl, h1, hb⟩
  rw [hl] at h1
  obtain rfl := h1.1
  exact ⟨A', c, by rw [he], h1, hb⟩

end Go.Proofs.Ytebliaclleplgaa

/- Walks: Valid and the reference's Valid, of diagrams of any size. -/
namespace Go.Proofs.Ytebliaclleplgaa
open Go.RowKit

set_option maxHeartbeats 800000 in
theorem limits_all (A B : Option Addr) (ns cs nm cm : Nat) (lp : Int) (w : World) :
    Calls Try.prog 32 #[dval A ns cs B nm cm lp] w fun e w' => e = .returned (.bool (limB ns nm lp)) ∧ Below w.heap.size w w' := by
  by_cases h1 : ns ≤ 64
  · by_cases h2 : nm = 4 * ns
    · subst h2
      by_cases h3 : 0 ≤ lp
      · by_cases h4 : lp ≤ 64
        · have e : limB ns (4 * ns) lp = true := by simp [limB, *]
          rw [e]; clear e
          go_enter Try.func32, Try.ntmps32
          go_wp2
          go_ret
          exact ⟨rfl, below_alloc _ _⟩
        · have e : limB ns (4 * ns) lp = false := by simp [limB, *]
          rw [e]; clear e
          have h4' : 64 < lp := by omega
          go_enter Try.func32, Try.ntmps32
          go_wp2
          go_ret
          exact ⟨rfl, below_alloc _ _⟩
      · have e : limB ns (4 * ns) lp = false := by simp [limB, *]
        rw [e]; clear e
        have h4' : lp < 0 := by omega
        go_enter Try.func32, Try.ntmps32
        go_wp2
        go_ret
        exact ⟨rfl, below_alloc _ _⟩
    · have e : limB ns nm lp = false := by simp [limB, *]
      rw [e]; clear e
      have h4 : ((nm : Int) == 4 * (ns : Int)) = false := by simp; omega
      go_enter Try.func32, Try.ntmps32
      go_wp2
      go_ret
      exact ⟨rfl, below_alloc _ _⟩
  · have e : limB ns nm lp = false := by simp [limB, *]
    rw [e]; clear e
    have h4' : 64 < ns := by omega
    go_enter Try.func32, Try.ntmps32
    go_wp2
    go_ret
    exact ⟨rfl, below_alloc _ _⟩

set_option maxHeartbeats 1600000 in
set_option maxRecDepth 100000 in
theorem rvalid_limA (A B : Option Addr) (ns cs nm cm : Nat) (lp : Int) (w : World) (hl : limB ns nm lp = false) :
    Calls Try.prog 17 #[dval A ns cs B nm cm lp] w fun e w' => e = .returned (.bool false) ∧ Below w.heap.size w w' := by
  by_cases h1 : ns ≤ 64
  · by_cases h2 : nm = 4 * ns
    · subst h2
      by_cases h3 : 0 ≤ lp
      · have h4' : 64 < lp := by
          by_cases h4 : lp ≤ 64
          · simp [limB, *] at hl
          · omega
        clear hl
        go_enter Try.func17, Try.ntmps17
        go_wp2
        go_ret
        exact ⟨rfl, below_alloc _ _⟩
      · have h4' : lp < 0 := by omega
        clear hl h3
        go_enter Try.func17, Try.ntmps17
        go_wp2
        go_ret
        exact ⟨rfl, below_alloc _ _⟩
    · have h4 : ((nm : Int) != 4 * (ns : Int)) = true := by simp only [bne_iff_ne, ne_eq]; omega
      clear hl h2
      go_enter Try.func17, Try.ntmps17
      go_wp2
      go_ret
      exact ⟨rfl, below_alloc _ _⟩
  · have h4' : 64 < ns := by omega
    clear hl h1
    go_enter Try.func17, Try.ntmps17
    go_wp2
    go_ret
    exact ⟨rfl, below_alloc _ _⟩

set_option maxHeartbeats 1600000 in
theorem valid_limA (A B : Option Addr) (ns cs nm cm : Nat) (lp : Int) (w : World) (hl : limB ns nm lp = false) :
    Calls Try.prog 19 #[dval A ns cs B nm cm lp] w fun e w' => e = .returned (.bool false) ∧ Below w.heap.size w w' := by
  obtain ⟨d0, d1, d2, dlt⟩ := DB.new w A ns cs B nm cm lp
  have hb0 := below_alloc w (dbox A ns cs B nm cm lp)
  have HC1 := Lib.hid (limits_all A B ns cs nm cm lp (w.alloc (dbox A ns cs B nm cm lp)))
  rw [hl] at HC1
  clear hl
  go_enter Try.func19, Try.ntmps19
  go_wp2_with (go_at_call 32; ((with_reducible refine HC1.out.mono ?_); rintro e w1 ⟨rfl, hb1⟩))
  go_ret
  exact ⟨rfl, below_step hb0 hb1⟩
theorem mt_in {m : List Int} (h : ∀ z ∈ m, inI z) (j : Nat) : -9223372036854775808 ≤ mt m j ∧ mt m j ≤ 9223372036854775807 := by
  unfold mt
  rcases Nat.lt_or_ge j m.length with hj | hj
  · have e : m.getD j 0 = m[j] := by simp [List.getD, hj]
    rw [e]; exact h _ (List.getElem_mem hj)
  · have e : m.getD j 0 = 0 := by simp [List.getD, hj]
    rw [e]; omega
theorem lim_small {ns nm : Nat} {lp : Int} (h : limB ns nm lp = true) : ns ≤ 64 ∧ nm ≤ 256 := by have := limB_out h; omega
/-- A diagram within the limits is a small one. -/
theorem DV.lim {w : World} {A B : Option Addr} {ns nm : Nat} {s m : List Int} {lp : Int} (hs : RI w A ns s) (hm : RI w B nm m) (hmI : ∀ z ∈ m, inI z) (hl : limB ns nm lp = true) : DV w A ns B nm s m :=
  ⟨hs, hm, by have := lim_small hl; omega, by have := lim_small hl; omega, fun j _ => mt_in hmI j⟩
theorem validB_limA {s m : List Int} {lp : Int} {ns nm : Nat} (hs : s.length = ns) (hm : m.length = nm) (hl : limB ns nm lp = false) : validB s m lp = false := by
  unfold validB; rw [hs, hm, hl]; rfl
theorem DV.valid' {w : World} {A B : Option Addr} {ns nm : Nat} {s m : List Int} {lp : Int} (hs : RI w A ns s) (hm : RI w B nm m) (hmI : ∀ z ∈ m, inI z) (hv : validB s m lp = true) : DV w A ns B nm s m := by
  cases hl : limB ns nm lp with
  | true => exact DV.lim hs hm hmI hl
  | false => rw [validB_limA hs.1 hm.1 hl] at hv; cases hv
theorem valid_all {A B : Option Addr} {ns nm : Nat} (cs cm : Nat) {lp : Int} {s m : List Int} {w : World} (hs : RI w A ns s) (hm : RI w B nm m) (hmI : ∀ z ∈ m, inI z) (r : Bool) (hr : validB s m lp = r) :
    Calls Try.prog 19 #[dval A ns cs B nm cm lp] w fun e w' => e = .returned (.bool r) ∧ Below w.heap.size w w' := by
  cases hl : limB ns nm lp with
  | true => exact (DV.lim hs hm hmI hl).valid cs cm lp r hr
  | false =>
    rw [validB_limA hs.1 hm.1 hl] at hr
    subst hr
    exact valid_limA A B ns cs nm cm lp w hl
theorem rvalid_all {A B : Option Addr} {ns nm : Nat} (cs cm : Nat) {lp : Int} {s m : List Int} {w : World} (hs : RI w A ns s) (hm : RI w B nm m) (hmI : ∀ z ∈ m, inI z) (r : Bool) (hr : validB s m lp = r) :
    Calls Try.prog 17 #[dval A ns cs B nm cm lp] w fun e w' => e = .returned (.bool r) ∧ Below w.heap.size w w' := by
  cases hl : limB ns nm lp with
  | true => exact (DV.lim hs hm hmI hl).rvalid cs cm lp r hr
  | false =>
    rw [validB_limA hs.1 hm.1 hl] at hr
    subst hr
    exact rvalid_limA A B ns cs nm cm lp w hl

end Go.Proofs.Ytebliaclleplgaa

/- Walk: the law DowkerBack. -/
namespace Go.Proofs.Ytebliaclleplgaa
open Go.ChangeShapes Go.WideShapes Go.ChangeAt Go.RowKit Go.Joins

set_option maxHeartbeats 3200000 in
set_option maxRecDepth 100000 in
theorem knot_no (A B : Option Addr) (ns cs nm cm : Nat) (lp : Int) (s m : List Int) (w : World) (hs : RI w A ns s) (hm : RI w B nm m) (hmI : ∀ z ∈ m, inI z) (hk : ¬ (1 ≤ ns ∧ ns ≤ 7 ∧ validB s m lp = true ∧ lp = 0 ∧ (strandsM s m lp).length = 1)) :
    Calls Try.prog 6 #[dval A ns cs B nm cm lp, .int .i64 7] w fun e w' => e = .returned (.bool false) ∧ Below w.heap.size w w' := by
  have hb0 := below_alloc w (dbox A ns cs B nm cm lp)
  obtain ⟨d0, d1, d2, dlt⟩ := DB.new w A ns cs B nm cm lp
  by_cases h1 : 1 ≤ ns
  · have h1' : 1 ≤ (ns : Int) := by omega
    by_cases h7 : ns ≤ 7
    · have h7' : (ns : Int) ≤ 7 := by omega
      cases hv : validB s m lp with
      | true =>
        have F := bk_facts hv
        have := F.lm
        have hls := hs.1
        have hlm := hm.1
        refine knot_r false A B ns cs nm cm lp 7 s m w (dvd_small hs hm hmI (by omega) (by omega)) hv h1 h7' (decide_eq_false fun q => hk ⟨h1, h7, hv, q.1, q.2⟩).symm
      | false =>
        have CV : Hid (Calls Try.prog 17 #[dval A ns cs B nm cm lp] (w.alloc (dbox A ns cs B nm cm lp)) fun e w' => e = .returned (.bool false) ∧ Below (w.alloc (dbox A ns cs B nm cm lp)).heap.size (w.alloc (dbox A ns cs B nm cm lp)) w') := Lib.hid (rvalid_all cs cm (hs.keep hb0) (hm.keep hb0) hmI false hv)
        clear hs hm hmI hk hv h1 h7
        go_enter Try.func6, Try.ntmps6
        go_wp2_with (go_at_call 17; ((with_reducible refine CV.out.mono ?_); rintro e w1 ⟨rfl, hb1⟩))
        go_ret
        exact ⟨rfl, below_step hb0 hb1⟩
    · have h7' : ¬ (ns : Int) ≤ 7 := by omega
      clear hs hm hmI hk h1 h7
      go_enter Try.func6, Try.ntmps6
      go_wp2
      go_ret
      exact ⟨rfl, hb0⟩
  · have h1' : ¬ 1 ≤ (ns : Int) := by omega
    clear hs hm hmI hk h1
    go_enter Try.func6, Try.ntmps6
    go_wp2
    go_ret
    exact ⟨rfl, hb0⟩

theorem rf_mates {m : List Int} {n nm : Nat} (e4 : nm = 4 * n) (hM : ∀ h, h < nm → m.getD h 0 = (matesOf m h : Int) ∧ matesOf m h < nm) : ∀ h, h < nm → (rfM (matesOf m) nm).getD h 0 = ((rfN (matesOf m (rfN h)) : Nat) : Int) ∧ rfN (matesOf m (rfN h)) < nm := fun h hh => by
  subst e4
  exact ⟨by simp [rfM, List.getD, hh], rfN_lt (hM _ (rfN_lt hh)).2⟩
/-- Whether a drawn diagram is a given one or its reflection, up to the numbering: both calls of isomorphic and that of reflected. -/
structure IsoC (P : Program) (w : World) (A B : Option Addr) (n cs nm cm : Nat) (l M : List Int) (NS RM : List Int) (r1 r2 : Bool) : Prop where
  one : ∀ (W : World) (X Y : Option Addr) (xc yc : Nat), Below w.heap.size w W → RI W X n l → RI W Y nm M → Calls P 11 #[dval X n xc Y nm yc 0, dval A n cs B nm cm 0] W fun e w' => e = .returned (.bool r1) ∧ Below W.heap.size W w'
  refl : ∀ (W : World), Below w.heap.size w W → Calls P 12 #[dval A n cs B nm cm 0] W fun e w' => ∃ A' c' B', e = .returned (dval A' n c' B' nm nm 0) ∧ RI w' A' n NS ∧ RI w' B' nm RM ∧ Below W.heap.size W w'
  two : ∀ (W : World) (X Y A' B' : Option Addr) (xc yc ac bc : Nat), RI W X n l → RI W Y nm M → RI W A' n NS → RI W B' nm RM → Calls P 11 #[dval X n xc Y nm yc 0, dval A' n ac B' nm bc 0] W fun e w' => e = .returned (.bool r2) ∧ Below W.heap.size W w'
theorem isoC_of {w : World} {A B : Option Addr} {n cs nm cm : Nat} {s m l M : List Int} (hs : RI w A n s) (hm : RI w B nm m) (hv : validB s m 0 = true) (hV : validB l M 0 = true) (hl : l.length = n) (h0 : 0 < n) (e4 : nm = 4 * n) :
    IsoC Try.prog w A B n cs nm cm l M (negs s n) (rfM (matesOf m) nm) (isoM (matesOf M) (matesOf m) (gz l) (gz s) n) (isoM (matesOf M) (fun h => rfN (matesOf m (rfN h))) (gz l) (gz (negs s n)) n) := by
  have F := bk_facts hv
  have F' := bk_facts hV
  have hls := hs.1
  have h64 : n ≤ 64 := by have := F.le; omega
  have hM : ∀ h, h < nm → m.getD h 0 = (matesOf m h : Int) ∧ matesOf m h < nm := matesOf_mates F.pr hm.1
  have hlM : M.length = nm := by rw [F'.lm, hl, e4]
  have hM' : ∀ h, h < nm → M.getD h 0 = (matesOf M h : Int) ∧ matesOf M h < nm := matesOf_mates F'.pr hlM
  refine ⟨fun W X Y xc yc hb h1 h2 => iso_any X Y A B n xc nm yc cs cm 0 l M s m (matesOf M) (matesOf m) W h1 h2 (hs.keep hb) (hm.keep hb) e4 h0 h64 hM' hM,
    fun W hb => reflected_any A B n cs nm cm 0 s m (matesOf m) W (hs.keep hb) (hm.keep hb) e4 h0 h64 hM (fun i hi => sg_cases F.sg (by omega)),
    fun W X Y A' B' xc yc ac bc h1 h2 h3 h4 => iso_any X Y A' B' n xc nm yc ac bc 0 l M (negs s n) (rfM (matesOf m) nm) (matesOf M) (fun h => rfN (matesOf m (rfN h))) W h1 h2 h3 h4 e4 h0 h64 hM' (rf_mates e4 hM)⟩

set_option maxHeartbeats 6400000 in
set_option maxRecDepth 100000 in
theorem dkback_walk (A B : Option Addr) (ns cs nm cm : Nat) (lp : Int) (s m : List Int) (w : World) (hs : RI w A ns s) (hm : RI w B nm m) (hns : ns ≤ 9223372036854775807) (_hnm : nm ≤ 9223372036854775807) (hmI : ∀ z ∈ m, inI z) :
    Calls Try.prog 3 #[dval A ns cs B nm cm lp] w fun e w' => e = .returned (.bool true) ∧ Below w.heap.size w w' := by
  have hb0 := below_alloc w (dbox A ns cs B nm cm lp)
  have CA := Lib.hid (dawake_any (w.alloc (dbox A ns cs B nm cm lp)))
  have HD := Lib.hid (DB.new w A ns cs B nm cm lp)
  by_cases hk : 1 ≤ ns ∧ ns ≤ 7 ∧ validB s m lp = true ∧ lp = 0 ∧ (strandsM s m lp).length = 1
  · obtain ⟨h1, h7, hv, hz, hst⟩ := hk
    have hls := hs.1
    have hc : ¬ 1 < compM s m lp := (knot_iff hv (by omega)).1 ⟨hz, hst⟩
    obtain ⟨code, l, K⟩ := back_law hv hls h1 (by omega) hc
    have F := bk_facts hv
    have e4 : nm = 4 * ns := by have := F.lm; have := hm.1; omega
    have hdv : DV w A ns B nm s m := dvd_small hs hm hmI (by omega) (by omega)
    have ok := K.ok
    have hI := inL_dv ok.dv
    have CK : ∀ W, Below w.heap.size w W → Hid (Calls Try.prog 6 #[dval A ns cs B nm cm lp, .int .i64 7] W fun e w' => e = .returned (.bool true) ∧ Below W.heap.size W w') := fun W hb =>
      knot_r true A B ns cs nm cm lp 7 s m W (hdv.keep hb) hv h1 (by omega) (decide_eq_true ⟨hz, hst⟩).symm
    have CO : ∀ W, Below w.heap.size w W → Hid (Calls Try.prog 7 #[dval A ns cs B nm cm lp] W fun e w' => ∃ A' c, e = .returned (.tuple #[.slice A' ns c, .int .i64 0]) ∧ RI w' A' ns code ∧ Below W.heap.size W w') := fun W hb => by
      have := of_e A B ns cs nm cm lp s m W (hdv.keep hb) 0 code K.e K.L
      have hcl := K.cl
      rw [hcl] at this; exact this
    have CV : ∀ (W : World) (A' : Option Addr) (c : Nat), RI W A' ns code → Hid (Calls Try.prog 8 #[.slice A' ns c] W fun e w' => e = .returned (.bool true) ∧ W = w') := fun W A' c h => rdvalid_r true A' ns c code W h hns hI ok.dv.symm
    have CD : ∀ (W : World) (A' : Option Addr) (c : Nat), RI W A' ns code → Hid (Calls Try.prog 9 #[.slice A' ns c] W fun e w' => ∃ X cs B cm, e = .returned (.tuple #[dval X ns cs B nm cm 0, .int .i64 0]) ∧ RI w' X ns l ∧ RI w' B nm (mkM code l) ∧ Below W.heap.size W w') := fun W A' c h => by
      have := dg_call A' ns c code l W h hns hI ok
      rw [← e4] at this
      refine this.mono ?_
      rintro e w' ⟨X, cs, B, cm, rfl, hd, hb⟩
      exact ⟨X, cs, B, cm, rfl, hd.hs, hd.hm, hb⟩
    have CL : ∀ (W : World) (A' : Option Addr) (c : Nat), RI W A' ns code → Hid (Calls Try.prog 10 #[.slice A' ns c] W (CycsPost W (allK code ns (2 ^ ns)))) := fun W A' c h => all_any A' ns c code W h h7 hI ok.dv
    subst hz
    have CI := Lib.hid (isoC_of (cs := cs) (cm := cm) hs hm hv ok.valid ok.len h1 e4)
    have htwo := K.two
    obtain ⟨M, hM⟩ : ∃ M, mkM code l = M := ⟨_, rfl⟩
    obtain ⟨xss, hx⟩ : ∃ xss, allK code ns (2 ^ ns) = xss := ⟨_, rfl⟩
    obtain ⟨NS, hNS⟩ : ∃ NS, negs s ns = NS := ⟨_, rfl⟩
    obtain ⟨RM, hRM⟩ : ∃ RM, rfM (matesOf m) nm = RM := ⟨_, rfl⟩
    have hxl : xss.length ≤ 128 := by
      have := allK_le code ns (2 ^ ns)
      rw [hx] at this
      exact Nat.le_trans this (Nat.le_trans (Nat.pow_le_pow_right (by decide) h7) (by decide))
    simp only [hM] at CD CI htwo
    simp only [hx] at CL htwo
    rw [hNS] at CI htwo
    rw [hRM] at CI
    obtain ⟨r1, hr1⟩ : ∃ r1, isoM (matesOf M) (matesOf m) (gz l) (gz s) ns = r1 := ⟨_, rfl⟩
    obtain ⟨r2, hr2⟩ : ∃ r2, isoM (matesOf M) (fun h => rfN (matesOf m (rfN h))) (gz l) (gz NS) ns = r2 := ⟨_, rfl⟩
    rw [hr1, hr2] at CI htwo
    clear hs hm hns _hnm hmI h1 h7 hv hst hls hc K F e4 hdv ok hI hM hx hNS hRM hr1 hr2
    by_cases h2 : xss.length = 2
    · have h2' : ((xss.length : Int) == 2) = true := by simpa using (by omega : (xss.length : Int) = 2)
      have h2'' : ((xss.length : Int) != 2) = false := by rw [bne, h2']; rfl
      have hor := htwo h2
      clear htwo h2
      cases r1 with
      | true =>
        clear hor
        go_enter Try.func3, Try.ntmps3
        go_upto_region 13 with (first
          | (go_at_call 5; ((with_reducible refine CA.out.mono ?_); rintro e w1 ⟨rfl, hb1'⟩; have hb1 := below_step hb0 hb1'; have HD1 := Lib.hid (HD.out.keep hb1'); obtain ⟨a0, a1, a2, alt⟩ := HD1.out))
          | (go_at_call 6; ((with_reducible refine (CK _ hb1).out.mono ?_); rintro e w2 ⟨rfl, hb2'⟩; have hb2 := below_step hb1 hb2'; have HD2 := Lib.hid (HD1.out.keep hb2'); obtain ⟨b0, b1, b2, blt⟩ := HD2.out))
          | (go_at_call 7; ((with_reducible refine (CO _ hb2).out.mono ?_); rintro e w3 ⟨A3, c3, rfl, hr3, hb3'⟩; have hb3 := below_step hb2 hb3'; have HD3 := Lib.hid (HD2.out.keep hb3')))
          | (go_at_call 8; ((with_reducible refine (CV _ _ _ hr3).out.mono ?_); rintro e w4 ⟨rfl, rfl⟩))
          | (go_at_call 9; ((with_reducible refine (CD _ _ _ hr3).out.mono ?_); rintro e w5 ⟨X, xc, Y, yc, rfl, hX, hY, hb5'⟩; have hb5a := below_alloc w5 (dbox X ns xc Y nm yc 0); have hb5 := below_step (below_step hb3 hb5') hb5a; have hr5 := (hr3.keep hb5').keep hb5a; have HD5 := Lib.hid ((HD3.out.keep hb5').keep hb5a); have HX5 := Lib.hid (DB.new w5 X ns xc Y nm yc 0); have hX5 := hX.keep hb5a; have hY5 := hY.keep hb5a))
          | (go_at_call 10; ((with_reducible refine (CL _ _ _ hr5).out.mono ?_); rintro e w6 ⟨v6, rfl, ho6, hb6'⟩; obtain ⟨A6, c6, rfl, hro⟩ := ho6.ro; clear ho6 hro; have hb6 := below_step hb5 hb6'; have HD6 := Lib.hid (HD5.out.keep hb6'); have HX6 := Lib.hid (HX5.out.keep hb6'); have hX6 := hX5.keep hb6'; have hY6 := hY5.keep hb6')))
        obtain ⟨p0, p1, p2, plt⟩ := HD6.out
        obtain ⟨q0, q1, q2, qlt⟩ := HX6.out
        generalize hgX : w5.heap.size = gX at q0 q1 q2 qlt ⊢
        have HXR := Lib.hid hX6
        have HYR := Lib.hid hY6
        have hbD : Below w6.heap.size w6 w6.drew := (Below.refl _ _).drew
        clear hX6 hY6 hgX
        go_region_with ((go_at_call 11; ((with_reducible refine (CI.out.one _ _ _ _ _ (below_step hb6 hbD) (HXR.out.keep hbD) (HYR.out.keep hbD)).mono ?_); rintro e w7 ⟨rfl, hb7'⟩; have hb7 := below_step hbD hb7')))
        all_goals (go_wp2; go_ret; exact ⟨rfl, below_step hb6 hb7⟩)
      | false =>
        obtain rfl : r2 = true := by simpa using hor
        clear hor
        go_enter Try.func3, Try.ntmps3
        go_upto_region 13 with (first
          | (go_at_call 5; ((with_reducible refine CA.out.mono ?_); rintro e w1 ⟨rfl, hb1'⟩; have hb1 := below_step hb0 hb1'; have HD1 := Lib.hid (HD.out.keep hb1'); obtain ⟨a0, a1, a2, alt⟩ := HD1.out))
          | (go_at_call 6; ((with_reducible refine (CK _ hb1).out.mono ?_); rintro e w2 ⟨rfl, hb2'⟩; have hb2 := below_step hb1 hb2'; have HD2 := Lib.hid (HD1.out.keep hb2'); obtain ⟨b0, b1, b2, blt⟩ := HD2.out))
          | (go_at_call 7; ((with_reducible refine (CO _ hb2).out.mono ?_); rintro e w3 ⟨A3, c3, rfl, hr3, hb3'⟩; have hb3 := below_step hb2 hb3'; have HD3 := Lib.hid (HD2.out.keep hb3')))
          | (go_at_call 8; ((with_reducible refine (CV _ _ _ hr3).out.mono ?_); rintro e w4 ⟨rfl, rfl⟩))
          | (go_at_call 9; ((with_reducible refine (CD _ _ _ hr3).out.mono ?_); rintro e w5 ⟨X, xc, Y, yc, rfl, hX, hY, hb5'⟩; have hb5a := below_alloc w5 (dbox X ns xc Y nm yc 0); have hb5 := below_step (below_step hb3 hb5') hb5a; have hr5 := (hr3.keep hb5').keep hb5a; have HD5 := Lib.hid ((HD3.out.keep hb5').keep hb5a); have HX5 := Lib.hid (DB.new w5 X ns xc Y nm yc 0); have hX5 := hX.keep hb5a; have hY5 := hY.keep hb5a))
          | (go_at_call 10; ((with_reducible refine (CL _ _ _ hr5).out.mono ?_); rintro e w6 ⟨v6, rfl, ho6, hb6'⟩; obtain ⟨A6, c6, rfl, hro⟩ := ho6.ro; clear ho6 hro; have hb6 := below_step hb5 hb6'; have HD6 := Lib.hid (HD5.out.keep hb6'); have HX6 := Lib.hid (HX5.out.keep hb6'); have hX6 := hX5.keep hb6'; have hY6 := hY5.keep hb6')))
        obtain ⟨p0, p1, p2, plt⟩ := HD6.out
        obtain ⟨q0, q1, q2, qlt⟩ := HX6.out
        generalize hgX : w5.heap.size = gX at q0 q1 q2 qlt ⊢
        have HXR := Lib.hid hX6
        have HYR := Lib.hid hY6
        have hbD : Below w6.heap.size w6 w6.drew := (Below.refl _ _).drew
        clear hX6 hY6 hgX
        go_region_held3 (fun w' => (w'.cell? ⟨gX, 0, none⟩ = some (.slice X ns xc) ∧ w'.cell? ⟨gX, 1, none⟩ = some (.slice Y nm yc) ∧ w'.cell? ⟨gX, 2, none⟩ = some (.int .i64 0)) ∧ (w'.cell? ⟨w.heap.size, 0, none⟩ = some (.slice A ns cs) ∧ w'.cell? ⟨w.heap.size, 1, none⟩ = some (.slice B nm cm) ∧ w'.cell? ⟨w.heap.size, 2, none⟩ = some (.int .i64 0)))
          (first
            | go_keep
            | exact ⟨⟨(hb9.cell (p := ⟨gX, 0, none⟩) qlt).trans q0, (hb9.cell (p := ⟨gX, 1, none⟩) qlt).trans q1, (hb9.cell (p := ⟨gX, 2, none⟩) qlt).trans q2⟩, ⟨(hb9.cell (p := ⟨w.heap.size, 0, none⟩) plt).trans p0, (hb9.cell (p := ⟨w.heap.size, 1, none⟩) plt).trans p1, (hb9.cell (p := ⟨w.heap.size, 2, none⟩) plt).trans p2⟩⟩
            | exact ⟨⟨(hb8.cell (p := ⟨gX, 0, none⟩) qlt).trans q0, (hb8.cell (p := ⟨gX, 1, none⟩) qlt).trans q1, (hb8.cell (p := ⟨gX, 2, none⟩) qlt).trans q2⟩, ⟨(hb8.cell (p := ⟨w.heap.size, 0, none⟩) plt).trans p0, (hb8.cell (p := ⟨w.heap.size, 1, none⟩) plt).trans p1, (hb8.cell (p := ⟨w.heap.size, 2, none⟩) plt).trans p2⟩⟩
            | exact ⟨⟨(hb7.cell (p := ⟨gX, 0, none⟩) qlt).trans q0, (hb7.cell (p := ⟨gX, 1, none⟩) qlt).trans q1, (hb7.cell (p := ⟨gX, 2, none⟩) qlt).trans q2⟩, ⟨(hb7.cell (p := ⟨w.heap.size, 0, none⟩) plt).trans p0, (hb7.cell (p := ⟨w.heap.size, 1, none⟩) plt).trans p1, (hb7.cell (p := ⟨w.heap.size, 2, none⟩) plt).trans p2⟩⟩)
          (first
            | (go_at_call 11; ((with_reducible refine (CI.out.two _ _ _ _ _ _ _ _ _ (HXR.out.keep hb8) (HYR.out.keep hb8) hN8 hR8).mono ?_); rintro e w9 ⟨rfl, hb9'⟩; have hb9 := below_step hb8 hb9'))
            | (go_at_call 12; ((with_reducible refine (CI.out.refl _ (below_step hb6 hb7)).mono ?_); rintro e w8 ⟨A8, c8, B8, rfl, hN8, hR8, hb8'⟩; have hb8 := below_step hb7 hb8'))
            | (go_at_call 11; ((with_reducible refine (CI.out.one _ _ _ _ _ (below_step hb6 hbD) (HXR.out.keep hbD) (HYR.out.keep hbD)).mono ?_); rintro e w7 ⟨rfl, hb7'⟩; have hb7 := below_step hbD hb7')))
        go_wp2
        go_ret
        exact ⟨rfl, below_step hb6 hb9⟩
    · have h2' : ((xss.length : Int) == 2) = false := by simp; omega
      have h2'' : ((xss.length : Int) != 2) = true := by rw [bne, h2']; rfl
      clear htwo h2 CI
      go_enter Try.func3, Try.ntmps3
      go_wp2_with (first
        | (go_at_call 5; ((with_reducible refine CA.out.mono ?_); rintro e w1 ⟨rfl, hb1'⟩; have hb1 := below_step hb0 hb1'; have HD1 := Lib.hid (HD.out.keep hb1'); obtain ⟨a0, a1, a2, alt⟩ := HD1.out))
        | (go_at_call 6; ((with_reducible refine (CK _ hb1).out.mono ?_); rintro e w2 ⟨rfl, hb2'⟩; have hb2 := below_step hb1 hb2'; have HD2 := Lib.hid (HD1.out.keep hb2'); obtain ⟨b0, b1, b2, blt⟩ := HD2.out))
        | (go_at_call 7; ((with_reducible refine (CO _ hb2).out.mono ?_); rintro e w3 ⟨A3, c3, rfl, hr3, hb3'⟩; have hb3 := below_step hb2 hb3'; have HD3 := Lib.hid (HD2.out.keep hb3')))
        | (go_at_call 8; ((with_reducible refine (CV _ _ _ hr3).out.mono ?_); rintro e w4 ⟨rfl, rfl⟩))
        | (go_at_call 9; ((with_reducible refine (CD _ _ _ hr3).out.mono ?_); rintro e w5 ⟨X, xc, Y, yc, rfl, hX, hY, hb5'⟩; have hb5a := below_alloc w5 (dbox X ns xc Y nm yc 0); have hb5 := below_step (below_step hb3 hb5') hb5a; have hr5 := (hr3.keep hb5').keep hb5a; have HD5 := Lib.hid ((HD3.out.keep hb5').keep hb5a); have HX5 := Lib.hid (DB.new w5 X ns xc Y nm yc 0); have hX5 := hX.keep hb5a; have hY5 := hY.keep hb5a))
        | (go_at_call 10; ((with_reducible refine (CL _ _ _ hr5).out.mono ?_); rintro e w6 ⟨v6, rfl, ho6, hb6'⟩; obtain ⟨A6, c6, rfl, hro⟩ := ho6.ro; clear ho6 hro; have hb6 := below_step hb5 hb6'; have HD6 := Lib.hid (HD5.out.keep hb6'); have HX6 := Lib.hid (HX5.out.keep hb6'); have hX6 := hX5.keep hb6'; have hY6 := hY5.keep hb6')))
      go_ret
      exact ⟨rfl, hb6⟩
  · have CK : ∀ W, Below w.heap.size w W → Hid (Calls Try.prog 6 #[dval A ns cs B nm cm lp, .int .i64 7] W fun e w' => e = .returned (.bool false) ∧ Below W.heap.size W w') := fun W hb => knot_no A B ns cs nm cm lp s m W (hs.keep hb) (hm.keep hb) hmI hk
    clear hs hm hmI hns _hnm hk
    go_enter Try.func3, Try.ntmps3
    go_wp2_with (first
      | (go_at_call 5; ((with_reducible refine CA.out.mono ?_); rintro e w1 ⟨rfl, hb1'⟩; have hb1 := below_step hb0 hb1'; have HD1 := Lib.hid (HD.out.keep hb1'); obtain ⟨a0, a1, a2, alt⟩ := HD1.out))
      | (go_at_call 6; ((with_reducible refine (CK _ hb1).out.mono ?_); rintro e w2 ⟨rfl, hb2'⟩; have hb2 := below_step hb1 hb2'; have HD2 := Lib.hid (HD1.out.keep hb2'); obtain ⟨b0, b1, b2, blt⟩ := HD2.out)))
    go_ret
    exact ⟨rfl, hb2⟩

end Go.Proofs.Ytebliaclleplgaa
