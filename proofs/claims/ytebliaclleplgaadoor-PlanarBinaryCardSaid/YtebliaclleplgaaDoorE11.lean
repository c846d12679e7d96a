import Derived.Test.YtebliaclleplgaaDoorE10
import Derived.Test.YtebliaclleplgaaDoorE07
import Derived.Test.YtebliaclleplgaaDoorE08
import Derived.Test.YtebliaclleplgaaDoorE05
/- Walk: the reference's Decode of as many bytes as are asked for. -/
namespace Go.Proofs.YtebliaclleplgaaDoor
open Go.ChangeShapes Go.WideShapes Go.ChangeAt Go.RowKit Go.Joins

theorem arr_zz (w : World) (n : Nat) : Arr (w.alloc (.cells (cellsN n fun _ => .int .i64 0) 3)) w.heap.size 3 n (iv fun _ => 0) := (Arr.new w n 3 (fun _ => .int .i64 0)).congr fun _ _ => rfl
/-- What is known of the two blocks that are made. -/
def RMd (wA : World) (nm : Nat) (lp : Int) (v : Value) (wX : World) : Prop :=
  ∃ gd gm, v = .pointer (some ⟨gd, 0, none⟩) ∧ wA.heap.size ≤ gd ∧ wA.heap.size ≤ gm ∧ gd ≠ gm ∧ DB wX gd none 0 0 (some ⟨gm, 0, none⟩) nm nm lp ∧ (∀ i, wX.frozen? ⟨gd, i, none⟩ = false) ∧ Arr wX gm 3 nm (iv fun _ => 0) ∧ Below wA.heap.size wA wX
theorem rmd_1 (wA : World) (nm : Nat) (lp : Int) : RMd wA nm lp (.pointer (some ⟨wA.heap.size + 1, 0, none⟩)) ((wA.alloc (.cells (cellsN nm fun _ => .int .i64 0) 3)).alloc (.cells #[.slice none 0 0, .slice (some ⟨wA.heap.size, 0, none⟩) nm nm, .int .i64 lp] 24)) := by
  have h := DB.new (wA.alloc (.cells (cellsN nm fun _ => .int .i64 0) 3)) none 0 0 (some ⟨wA.heap.size, 0, none⟩) nm nm lp
  rw [show (wA.alloc (.cells (cellsN nm fun _ => .int .i64 0) 3)).heap.size = wA.heap.size + 1 by simp] at h
  exact ⟨wA.heap.size + 1, wA.heap.size, rfl, by omega, Nat.le_refl _, by omega, h, fun i => World.frozen?_alloc_at _ _ _ _ (by simp), (arr_zz wA nm).alloc _, below_step (below_alloc _ _) (below_alloc _ _)⟩
theorem rmd_2 (wA : World) (nm : Nat) (lp : Int) : RMd wA nm lp (.pointer (some ⟨wA.heap.size, 0, none⟩)) ((wA.alloc (.cells #[.slice none 0 0, .slice (some ⟨wA.heap.size + 1, 0, none⟩) nm nm, .int .i64 lp] 24)).alloc (.cells (cellsN nm fun _ => .int .i64 0) 3)) := by
  have h1 := DB.new wA none 0 0 (some ⟨wA.heap.size + 1, 0, none⟩) nm nm lp
  have h3 := arr_zz (wA.alloc (dbox none 0 0 (some ⟨wA.heap.size + 1, 0, none⟩) nm nm lp)) nm
  rw [show (wA.alloc (dbox none 0 0 (some ⟨wA.heap.size + 1, 0, none⟩) nm nm lp)).heap.size = wA.heap.size + 1 by simp] at h3
  refine ⟨wA.heap.size, wA.heap.size + 1, rfl, Nat.le_refl _, by omega, by omega, h1.keep (below_alloc _ _), fun i => ?_, h3, below_step (below_alloc _ _) (below_alloc _ _)⟩
  exact ((below_alloc _ _).frozen (p := ⟨wA.heap.size, i, none⟩) h1.2.2.2).trans (World.frozen?_alloc_at _ _ _ _ rfl)
theorem RMd.dr {wA wX : World} {nm : Nat} {lp : Int} {v : Value} (h : RMd wA nm lp v wX) : RMd wA nm lp v wX.drew := by
  obtain ⟨gd, gm, e, h1, h2, h3, h4, h5, h6, h7⟩ := h
  exact ⟨gd, gm, e, h1, h2, h3, h4.keep (below_drew0 _), h5, h6, below_drew1 h7⟩
set_option maxHeartbeats 6400000 in
set_option maxRecDepth 100000 in
theorem rdecode_exact (A : Option Addr) (N c : Nat) (xs : List Int) (w : World) (hA : RB w A N xs) (hx : byteL xs) (h2 : 2 ≤ N) (n lp : Nat) (e0' : yN xs 0 = n) (e1' : yN xs 1 = lp) (hn : n ≤ 64) (hlp : lp ≤ 64) (hf : N = decEnd n) : Calls Tryd.prog 22 #[.slice A N c] w (DcPost (decM xs) w) := by
  have HLEN : Hid (xs.length = decEnd n) := Lib.hid (by rw [← hf]; exact hA.1)
  have hlp' := hlp
  have hb0 := below_alloc w (.cells #[.slice none 0 0, .slice none 0 0, .int .i64 0] 24)
  have HX := Lib.hid (BxP.new w)
  have HRB := Lib.hid (hA.keep hb0)
  obtain ⟨b, off, rfl, hbb, hcc⟩ := (hA.keep hb0).2 (by omega)
  have q0 := hcc 0 (by omega)
  have q1 := hcc 1 (by omega)
  rw [Nat.add_zero, (yN_cast hx 0).1, e0'] at q0
  rw [(yN_cast hx 1).1, e1'] at q1
  have l0 : n < 256 := by omega
  have l1 : lp < 256 := by omega
  have hbb0 := hbb
  clear hcc hA hbb
  have h20 : ¬ ((N : Int) < 2) := by omega
  have h21 : (0 : Int) < (N : Int) := by omega
  have h22 : (1 : Int) < (N : Int) := by omega
  have wn : IntKind.i64.wrap (n : Int) = (n : Int) := IntWalk.i64_in _ (by omega)
  have wl : IntKind.i64.wrap (lp : Int) = (lp : Int) := IntWalk.i64_in _ (by omega)
  obtain ⟨nb, hnb⟩ : ∃ nb, (n + 7) / 8 = nb := ⟨_, rfl⟩
  have b1 : IntKind.i64.wrap ((n : Int) + 7) = (n : Int) + 7 := IntWalk.i64_in _ (by omega)
  have b2 : ((n : Int) + 7) / 8 = (nb : Int) := by omega
  have b3 : (0 : Int) ≤ (n : Int) := Int.natCast_nonneg _
  obtain ⟨fm, hfm⟩ : ∃ fm, 2 + nb = fm := ⟨_, rfl⟩
  obtain ⟨m2, hm2⟩ : ∃ m2, 2 * n = m2 := ⟨_, rfl⟩
  obtain ⟨en, hen⟩ : ∃ en, fm + m2 = en := ⟨_, rfl⟩
  have w1 : IntKind.i64.wrap (2 + (nb : Int)) = (fm : Int) := by rw [IntWalk.i64_in _ (by omega)]; omega
  have w2 : IntKind.i64.wrap (2 * (n : Int)) = (m2 : Int) := by rw [IntWalk.i64_in _ (by omega)]; omega
  have w3 : IntKind.i64.wrap ((fm : Int) + (m2 : Int)) = (en : Int) := by rw [IntWalk.i64_in _ (by omega)]; omega
  have hen' : decEnd n = en := by unfold decEnd; omega
  rw [hen'] at hf
  subst hf
  have hfl : (n : Int) ≤ 64 := by omega
  have hfl2 : (lp : Int) ≤ 64 := by omega
  obtain ⟨nm, hnm⟩ : ∃ nm, nm = 4 * n := ⟨_, rfl⟩
  have hmk : ∀ W, (Instr.makeSlice 22 (.int .i64 (4 * (n : Int))) (.int .i64 (4 * (n : Int)))).run Tryd.prog W = .ok (.slice (some ⟨W.heap.size, 0, none⟩) nm nm) (W.alloc (.cells (cellsN nm fun _ => .int .i64 0) 3)) := fun W => by
    have := make_one (P := Tryd.prog) Tryd.underlying22 Tryd.infoInt rfl nm (by omega) (by omega) W
    rw [show ((nm : Nat) : Int) = 4 * (n : Int) by omega] at this
    exact this
  go_enter Tryd.func22, Tryd.ntmps22
  go_upto_region 3 with fail
  generalize w.alloc (.cells #[.slice none 0 0, .slice none 0 0, .int .i64 0] 24) = wB at *
  obtain ⟨r0, r1, r2, rlt⟩ := HX.out.1
  have g0 := HX.out.2 0
  have g1 := HX.out.2 1
  have g2 := HX.out.2 2
  have hbA : w.heap.size + 1 ≤ wB.heap.size := rlt
  have hbB : b < wB.heap.size := hbb0
  have K1 : ∀ o, (wB.alloc o).cell? ⟨b, off + 1, none⟩ = some (.int .u8 (lp : Nat)) := fun o => ((below_alloc wB o).cell (p := ⟨b, off + 1, none⟩) hbB).trans q1
  have K2 : ∀ o o', ((wB.alloc o).alloc o').cell? ⟨b, off + 1, none⟩ = some (.int .u8 (lp : Nat)) := fun o o' => ((below_step (below_alloc wB o) (below_alloc _ o')).cell (p := ⟨b, off + 1, none⟩) hbB).trans q1
  go_wp2
  go_cut [6] (fun v wX => RMd wB nm lp v wX)
  case first =>
    go_region
    all_goals go_wp2_with fail
    all_goals go_meet
    all_goals rw [hnm]
    all_goals first
      | exact rmd_1 _ _ _
      | exact (rmd_1 _ _ _).dr
      | exact rmd_2 _ _ _
      | exact (rmd_2 _ _ _).dr
  case rest =>
    obtain ⟨gd, gm, rfl, hgd, hgm, hne, hdb, hdf, hA0, hbX⟩ := hcut
    obtain ⟨x0, x1, x2, xlt⟩ := hdb
    obtain ⟨BB, hBB⟩ : ∃ BB, wc.heap.size = BB := ⟨_, rfl⟩
    have hDB : gd < BB := by omega
    have hMB : gm < BB := by have := hA0.lt; omega
    have HI0 : Hid (RdI wB wc gd gm BB nm lp (.slice none 0 0) (sgY (decBits xs n) (min 0 n)) (iv fun _ => 0)) := Lib.hid ⟨hbX, by omega, x0, x1, x2, hdf, by rw [Nat.zero_min]; exact OI.nil _ _, hA0⟩
    have HB2 := Lib.hid hbB
    have HNB := Lib.hid hnb
    have HFM := Lib.hid hfm
    have HM2 := Lib.hid hm2
    have HEN := Lib.hid hen
    have HNM := Lib.hid hnm
    have HHN := Lib.hid hn
    have HHX := Lib.hid hx
    have HEN' := Lib.hid hen'
    have nb8 : (nb : Int) ≤ 8 := by omega
    have nb0 : (0 : Int) ≤ (nb : Int) := Int.natCast_nonneg _
    have R : ∀ (wr : World) (k : Nat), Below wB.heap.size wB wr → k < N → wr.cell? ⟨b, off + k, none⟩ = some (.int .u8 (yN xs k : Nat)) := fun wr k hb hk => by
      obtain ⟨b', o', e, hlt, hc⟩ := HRB.out.2 (by omega)
      injection e with e; injection e with e1 e2; subst e1; subst e2
      rw [(hb.cell (p := ⟨b, off + k, none⟩) hlt).trans (hc k hk), (yN_cast HHX.out k).1]
    have HR := Lib.hid R
    clear x0 x1 x2 xlt hdf hA0 hbX hBB K1 K2 hmk R hbB hbb0 q0 q1 hnb hfm hm2 hen hnm hn hx hen' rlt h20 b1 b2 w1 w2 w3 r0 r1 r2 g0 g1 g2 l0 l1 h2 wl wn hlp h21 h22
    go_wp2
    go_loopw [7, 8] (fun c _ wr => ∃ (k : Nat) (v : Value), k ≤ 8 * nb ∧ c = .int .i64 k ∧ RdI wB wr gd gm BB nm lp v (sgY (decBits xs n) (min k n)) (iv fun _ => 0) ∧ ∀ i, n ≤ i → i < k → bitY (decBits xs n) i = 0) (fun c _ _ => 8 * nb - (intOf c).toNat)
    case atStart => exact ⟨0, _, by omega, rfl, HI0.out, fun i _ hi => absurd hi (Nat.not_lt_zero i)⟩
    case round =>
      obtain ⟨k, v, hk, rfl, hI, hz⟩ := hrel
      have hk0 : (0 : Int) ≤ (k : Int) := Int.natCast_nonneg _
      have HZ := Lib.hid hz
      clear hz
      by_cases hlt : k < 8 * nb
      · obtain ⟨q, hq⟩ : ∃ q, k / 8 = q := ⟨_, rfl⟩
        obtain ⟨r, hr⟩ : ∃ r, k % 8 = r := ⟨_, rfl⟩
        have hqn : q < nb := by omega
        obtain ⟨zz, hzz⟩ : ∃ zz, 2 + q = zz := ⟨_, rfl⟩
        have hzN : zz < N := by have := HFM.out; have := HEN.out; omega
        have c0 := HR.out _ _ hI.below hzN
        have hbit : bitY (decBits xs n) k = yN xs zz / 2 ^ r % 2 := by unfold bitY; rw [hq, hr, yN_bits (by rw [HNB.out]; exact hqn), hzz]
        have hy256 := (yN_cast HHX.out zz).2
        obtain ⟨y, hyy⟩ : ∃ y, yN xs zz = y := ⟨_, rfl⟩
        rw [hyy] at c0 hy256 hbit
        obtain ⟨p, hp⟩ : ∃ p, 2 ^ r = p := ⟨_, rfl⟩
        have hp128 : 2 ^ r ≤ 128 := Nat.le_trans (Nat.pow_le_pow_right (by decide) (by omega : r ≤ 7)) (by decide)
        rw [hp] at hbit hp128
        obtain ⟨z, hz⟩ : ∃ z, y / p = z := ⟨_, rfl⟩
        have hzy : z ≤ y := by rw [← hz]; exact Nat.div_le_self _ _
        obtain ⟨t, ht⟩ : ∃ t, z % 2 = t := ⟨_, rfl⟩
        rw [hz, ht] at hbit
        have ht2 : t < 2 := by omega
        have e1 : (k : Int) / 8 = (q : Int) := by omega
        have e2 : (k : Int) % 8 = (r : Int) := by omega
        have e0 : 2 + (q : Int) = (zz : Int) := by omega
        have e3 : ((2 : Int) ^ r) = (p : Int) := by rw [← hp]; norm_cast
        have e4 : (y : Int) / (p : Int) = (z : Int) := by rw [← hz]; norm_cast
        have e5 : (z : Int) % 2 = (t : Int) := by omega
        have q0 : (0 : Int) ≤ (q : Int) := Int.natCast_nonneg _
        have q1 : (q : Int) < (nb : Int) := by omega
        have zz0 : (0 : Int) ≤ (zz : Int) := Int.natCast_nonneg _
        have zz1 : (zz : Int) < (N : Int) := by omega
        have r0 : (0 : Int) ≤ (r : Int) := Int.natCast_nonneg _
        have r1 : (r : Int) < 8 := by omega
        have y0 : (0 : Int) ≤ (y : Int) := Int.natCast_nonneg _
        have t0 : (0 : Int) ≤ (t : Int) := Int.natCast_nonneg _
        have t1 : (t : Int) < 2 := by omega
        have z0 : (0 : Int) ≤ (z : Int) := Int.natCast_nonneg _
        have hk1 : (k : Int) < 8 * (nb : Int) := by omega
        have HBIT := Lib.hid hbit
        clear hbit hyy hp hz ht hq hr hzz hqn hzN hp128 hzy
        by_cases hkn : k < n
        · rw [show min k n = k by omega] at hI
          have m1 : IntKind.i64.wrap (2 * (t : Int)) = 2 * (t : Int) := IntWalk.i64_in _ (by omega)
          have m2 : IntKind.i64.wrap (2 * (t : Int) - 1) = 2 * (t : Int) - 1 := IntWalk.i64_in _ (by omega)
          have hkn1 : ¬ (n : Int) ≤ (k : Int) := by omega
          have d0 := hI.b0
          have f0 := hI.bf 0
          have hbs := hI.base
          have HI := Lib.hid hI
          clear hI
          go_wp2_with ((at_builtin; refine wpList_append_int rfl (.tmp 84) (.tmp 88) rfl BB v (sgY (decBits xs n) k) rfl (HI.out.own.alloc _) wr.heap.size (2 * (t : Int) - 1) rfl (by rw [World.cell?_alloc_at _ _ _ _ rfl]; rfl) (by rw [sgY_len]; omega) (by simp; omega) ?_; intro v' w5 ho5 hg5; obtain ⟨A5, c5, rfl⟩ := oi_snoc ho5 (k := k) (sgY_len _ _); obtain ⟨d5, f5⟩ := HI.out.mid hDB (below_alloc _ _) hg5))
          have HST := Lib.hid (HI.out.step hDB hMB hne hgd (below_alloc _ _) hg5 ho5)
          go_roundw
          case rel => exact ⟨k + 1, _, by omega, by go_num, by rw [show min (k + 1) n = k + 1 by omega, sgY_succ, HBIT.out]; exact HST.out, fun i h1 h2 => absurd h2 (by omega)⟩
          case measure => simp [intOf]; omega
        · have hkn1 : (n : Int) ≤ (k : Int) := by omega
          by_cases ht1 : t = 1
          · subst ht1
            have HUN : Hid (unY (decBits xs n) n = true) := Lib.hid (un_yes (i := k) (by omega) (by rw [HNB.out]; exact hlt) HBIT.out)
            obtain ⟨r0, r1, r2, rlt⟩ := (HX.out.kp hI.below).1
            have g0 := (HX.out.kp hI.below).2 0
            have g1 := (HX.out.kp hI.below).2 1
            have g2 := (HX.out.kp hI.below).2 2
            have HXX := Lib.hid (HX.out.kp hI.below)
            have HBE := Lib.hid hI.below
            clear hI
            have HF : Hid (decM xs = ⟨3, [], [], 0⟩) := Lib.hid (decM_un e0' e1' HHN.out hlp' HLEN.out HUN.out)
            go_wp2
            obtain ⟨k0, k1, k2⟩ := set3p_cells HXX.out (.slice none 0 0) (.slice none 0 0) (.int .i64 0)
            exact bodyPost_ret (v := .tuple #[dval none 0 0 none 0 0 0, .int .i64 3]) (by simp [results, Tryd.results22, go_sem, k0, k1, k2]) rfl (dc_none _ 3 HF.out (set3p_below (below_step hb0 HBE.out) (Nat.le_refl _) _ _ _))
          · have ht0 : t = 0 := by omega
            subst ht0
            have HI := Lib.hid hI
            clear hI
            go_wp2
            go_roundw
            case rel => exact ⟨k + 1, _, by omega, by go_num, by rw [show min (k + 1) n = min k n by omega]; exact HI.out, fun i h1 h2 => by
              by_cases e : i = k
              · subst e; exact HBIT.out
              · exact HZ.out i h1 (by omega)⟩
            case measure => simp [intOf]; omega
      · have hk8 : k = 8 * nb := by omega
        have hk9 : ¬ (k : Int) < 8 * (nb : Int) := by omega
        have HUN : Hid (unY (decBits xs n) n = false) := Lib.hid (un_no (yN_cast (byteL_bits HHX.out n) _).2 (fun i h1 h2 => HZ.out i h1 (by rw [HNB.out] at h2; omega)))
        rw [show min k n = n by have := HNB.out; omega] at hI
        obtain ⟨S, cs, rfl⟩ := oi_len hI.own (sgY_len (decBits xs n) n)
        have h2 := hI.two (M := fun _ => 0) hDB hMB hne hgd hgm
        have H2 : Hid (R2 wB (wr.alloc (.cells (cellsN nm fun _ => .bool false) 4)) gd gm wr.heap.size nm n S cs lp (sgY (decBits xs n) n) (msK (sgY (decBits xs n) n) (yN (decMates xs n)) nm 0).M (msK (sgY (decBits xs n) n) (yN (decMates xs n)) nm 0).T) := Lib.hid h2
        have hmk2 : ∀ W, (Instr.makeSlice 80 (.int .i64 (4 * (n : Int))) (.int .i64 (4 * (n : Int)))).run Tryd.prog W = .ok (.slice (some ⟨W.heap.size, 0, none⟩) nm nm) (W.alloc (.cells (cellsN nm fun _ => .bool false) 4)) := fun W => by
          have := make_one (P := Tryd.prog) Tryd.underlying80 Tryd.infoBoolD rfl nm (by have := HNM.out; have := HHN.out; omega) (by have := HNM.out; have := HHN.out; omega) W
          rw [show ((nm : Nat) : Int) = 4 * (n : Int) by have := HNM.out; omega] at this
          exact this
        have w1 : IntKind.i64.wrap (2 + (nb : Int)) = (fm : Int) := by rw [IntWalk.i64_in _ (by omega)]; have := HFM.out; omega
        obtain ⟨gU, hgU⟩ : ∃ gU, wr.heap.size = gU := ⟨_, rfl⟩
        rw [hgU] at H2
        clear hI h2 hk hlt hk8
        go_wp2
        go_upto_region 22 with fail
        clear hgU hmk2 hk9
        generalize wr.alloc (.cells (cellsN nm fun _ => .bool false) 4) = wU at *
        have HST0 : Hid ((msK (sgY (decBits xs n) n) (yN (decMates xs n)) nm 0).ok = true ∧ (msK (sgY (decBits xs n) n) (yN (decMates xs n)) nm 0).nx = 0) := Lib.hid ⟨rfl, rfl⟩
        have HSG : Hid (sgnsB (sgY (decBits xs n) n) = true) := Lib.hid (sgY_sg _ _)
        have HBADD : Hid ((msK (sgY (decBits xs n) n) (yN (decMates xs n)) nm nm).ok = false → decM xs = ⟨3, [], [], 0⟩) := Lib.hid fun h => decM_bad e0' e1' HHN.out hlp' HLEN.out HUN.out (by rw [← HNM.out]; exact h)
        have HNO : Hid ((msK (sgY (decBits xs n) n) (yN (decMates xs n)) nm nm).ok = true → validB (sgY (decBits xs n) n) (lnM nm (msK (sgY (decBits xs n) n) (yN (decMates xs n)) nm nm).M) lp = false → decM xs = ⟨7, [], [], 0⟩) := Lib.hid fun h hv => decM_no e0' e1' HHN.out hlp' HLEN.out HUN.out (by rw [← HNM.out]; exact h) (by rw [← HNM.out]; exact hv)
        have HYES : Hid ((msK (sgY (decBits xs n) n) (yN (decMates xs n)) nm nm).ok = true → validB (sgY (decBits xs n) n) (lnM nm (msK (sgY (decBits xs n) n) (yN (decMates xs n)) nm nm).M) lp = true → decM xs = ⟨0, sgY (decBits xs n) n, lnM nm (msK (sgY (decBits xs n) n) (yN (decMates xs n)) nm nm).M, lp⟩) := Lib.hid fun h hv => by
          have := decM_yes e0' e1' HHN.out hlp' HLEN.out HUN.out (by rw [← HNM.out]; exact h) (by rw [← HNM.out]; exact hv)
          rw [← HNM.out] at this; exact this
        have HYM : Hid (∀ q, yN (decMates xs n) q = yN xs (fm + q)) := Lib.hid fun q => by rw [yN_mates, HNB.out, HFM.out]
        have HSL := Lib.hid (sgY_len (decBits xs n) n)
        obtain ⟨Y, hYY⟩ : ∃ Y, yN (decMates xs n) = Y := ⟨_, rfl⟩
        obtain ⟨sg, hsg⟩ : ∃ sg, sgY (decBits xs n) n = sg := ⟨_, rfl⟩
        rw [hYY, hsg] at H2 HST0 HBADD HNO HYES
        rw [hsg] at HSG HSL
        rw [hYY] at HYM
        clear hYY hsg HUN
        have HROOM : Hid (∀ k, k < nm → (msK sg Y nm k).ok = true → outB sg k = true → (msK sg Y nm k).nx < m2) := Lib.hid fun k hk h1 h3 => by
          have e := HNM.out
          have e' := HM2.out
          subst e; subst e'
          exact ms_room HSG.out HSL.out hk h1 h3
        have HBAD : Hid (∀ k, k ≤ nm → (msK sg Y nm k).ok = false → (msK sg Y nm nm).ok = false) := Lib.hid fun k hk h1 => by
          have := msK_bad h1 (nm - k)
          rwa [show k + (nm - k) = nm by omega] at this
        have hnm256 : nm ≤ 256 := by have := HNM.out; have := HHN.out; omega
        have hfm11 : fm ≤ 11 := by have := HFM.out; omega
        go_wp2
        go_loopw [10, 11, 12] (fun nx i _ wr => ∃ k : Nat, k ≤ nm ∧ i = .int .i64 k ∧ (msK sg Y nm k).ok = true ∧ nx = .int .i64 ((fm + (msK sg Y nm k).nx : Nat) : Int) ∧ R2 wB wr gd gm gU nm n S cs lp sg (msK sg Y nm k).M (msK sg Y nm k).T) (fun _ i _ _ => nm - (intOf i).toNat)
        case atStart => exact ⟨0, by omega, rfl, HST0.out.1, by rw [HST0.out.2]; rfl, H2.out⟩
        case round =>
          obtain ⟨k, hk, rfl, hok, rfl, h2⟩ := hrel
          have hk0 : (0 : Int) ≤ (k : Int) := Int.natCast_nonneg _
          by_cases hlt : k < nm
          · have hst : msK sg Y nm (k + 1) = msStep sg Y nm k (msK sg Y nm k) := rfl
            unfold msStep at hst
            rw [if_neg (by rw [hok]; decide)] at hst
            have hroom := HROOM.out k hlt hok
            obtain ⟨st, hste⟩ : ∃ st, msK sg Y nm k = st := ⟨_, rfl⟩
            rw [hste] at hst hroom h2 hok
            simp only [hste]
            obtain ⟨nx, M, T, ok⟩ := st
            simp only at hst hroom h2 hok ⊢
            subst hok
            have hk1 : (k : Int) < 4 * (n : Int) := by have := HNM.out; omega
            have hk4 : k / 4 < n := by have := HNM.out; omega
            have CO := Lib.hid (rout_any S n cs sg k wr h2.own hk4 (by have := HHN.out; omega))
            have b0 := h2.b0
            have H2 := Lib.hid h2
            have HST := Lib.hid hst
            clear h2 hst hste hk4
            cases ho : outB sg k with
            | false =>
              rw [ho] at CO HST
              rw [if_pos rfl] at HST
              clear ho hroom
              go_wp2_with ((go_at_call 30; ((with_reducible refine CO.out.mono ?_); rintro e w4 ⟨rfl, rfl⟩)))
              go_roundw
              case rel => exact ⟨k + 1, by omega, by go_num, by rw [HST.out], by rw [HST.out]; simp only; go_num, by rw [HST.out]; exact H2.out⟩
              case measure => simp [intOf]; omega
            | true =>
              rw [ho] at CO HST
              rw [if_neg (by decide)] at HST
              have hnx := hroom ho
              have hye := HYM.out nx
              have hfN : fm + nx < N := by have := HEN.out; omega
              obtain ⟨x, hx⟩ : ∃ x, Y nx = x := ⟨_, rfl⟩
              rw [hx] at HST hye
              have c0 := HR.out _ _ H2.out.below hfN
              have hx256 := (yN_cast HHX.out (fm + nx)).2
              rw [← hye] at c0 hx256
              obtain ⟨fx, hfx⟩ : ∃ fx, fm + nx = fx := ⟨_, rfl⟩
              rw [hfx] at c0 hfN
              have x0 : (0 : Int) ≤ (x : Int) := Int.natCast_nonneg _
              have fx0 : (0 : Int) ≤ (fx : Int) := Int.natCast_nonneg _
              have fx1 : (fx : Int) < (N : Int) := by omega
              have hfx1k : fx ≤ 1000 := by have := HM2.out; have := HHN.out; omega
              have hnw : IntKind.i64.wrap ((fx : Int) + 1) = (fx : Int) + 1 := IntWalk.i64_in _ (by omega)
              have HFX := Lib.hid hfx
              simp only [hfx]
              have hkx : outB sg x = false → k ≠ x := fun h e => by rw [← e, ho] at h; cases h
              clear ho hroom hye hfN hx hfx hnx
              by_cases hxm : x < nm
              · have x1 : (x : Int) < 4 * (n : Int) := by have := HNM.out; omega
                have hx4 : x / 4 < n := by have := HNM.out; omega
                have CO2 := Lib.hid (rout_any S n cs sg x wr H2.out.own hx4 (by have := HHN.out; omega))
                have u1 := H2.out.used.cell x hxm
                have x2 : (x : Int) < (nm : Int) := by omega
                clear hx4
                cases ho2 : outB sg x with
                | true =>
                  have HF : Hid (decM xs = ⟨3, [], [], 0⟩) := Lib.hid (HBADD.out (HBAD.out (k + 1) (by omega) (by rw [HST.out, if_pos (.inr (.inl ho2))])))
                  rw [ho2] at CO2
                  have HXX := Lib.hid (HX.out.kp H2.out.below)
                  obtain ⟨r0, r1, r2, rlt⟩ := HXX.out.1
                  have g0 := HXX.out.2 0
                  have g1 := HXX.out.2 1
                  have g2 := HXX.out.2 2
                  clear ho2 hkx
                  go_wp2_with (first
                    | (go_at_call 30; ((with_reducible refine CO2.out.mono ?_); rintro e w4 ⟨rfl, rfl⟩))
                    | (go_at_call 30; ((with_reducible refine CO.out.mono ?_); rintro e w4 ⟨rfl, rfl⟩)))
                  obtain ⟨k0, k1, k2⟩ := set3p_cells HXX.out (.slice none 0 0) (.slice none 0 0) (.int .i64 0)
                  exact bodyPost_ret (v := .tuple #[dval none 0 0 none 0 0 0, .int .i64 3]) (by simp [results, Tryd.results22, go_sem, k0, k1, k2]) rfl (dc_none _ 3 HF.out (set3p_below (below_step hb0 H2.out.below) (Nat.le_refl _) _ _ _))
                | false =>
                  rw [ho2] at CO2
                  by_cases h3 : x ∈ T
                  · have HF : Hid (decM xs = ⟨3, [], [], 0⟩) := Lib.hid (HBADD.out (HBAD.out (k + 1) (by omega) (by rw [HST.out, if_pos (.inr (.inr h3))])))
                    have u2 : wr.cell? ⟨gU, x, none⟩ = some (.bool true) := by rw [u1]; show some (Value.bool (decide (x ∈ T))) = _; rw [decide_eq_true h3]
                    have HXX := Lib.hid (HX.out.kp H2.out.below)
                    obtain ⟨r0, r1, r2, rlt⟩ := HXX.out.1
                    have g0 := HXX.out.2 0
                    have g1 := HXX.out.2 1
                    have g2 := HXX.out.2 2
                    clear h3 ho2 hkx u1
                    go_wp2_with (first
                      | (go_at_call 30; ((with_reducible refine CO2.out.mono ?_); rintro e w4 ⟨rfl, rfl⟩))
                      | (go_at_call 30; ((with_reducible refine CO.out.mono ?_); rintro e w4 ⟨rfl, rfl⟩)))
                    obtain ⟨k0, k1, k2⟩ := set3p_cells HXX.out (.slice none 0 0) (.slice none 0 0) (.int .i64 0)
                    exact bodyPost_ret (v := .tuple #[dval none 0 0 none 0 0 0, .int .i64 3]) (by simp [results, Tryd.results22, go_sem, k0, k1, k2]) rfl (dc_none _ 3 HF.out (set3p_below (below_step hb0 H2.out.below) (Nat.le_refl _) _ _ _))
                  · have u2 : wr.cell? ⟨gU, x, none⟩ = some (.bool false) := by rw [u1]; show some (Value.bool (decide (x ∈ T))) = _; rw [decide_eq_false h3]
                    have HST2 : Hid (msK sg Y nm (k + 1) = ⟨nx + 1, upd (upd M k x) x k, T ++ [x], true⟩) := Lib.hid (by rw [HST.out, ho2, if_neg (fun q => q.elim (fun q => absurd q (by omega)) (fun q => q.elim (fun q => by cases q) h3))])
                    have f2 := H2.out.used.frozen x
                    have hkx2 : k ≠ x := hkx ho2
                    have h5 := H2.out.setU x
                    clear h3 ho2 hkx u1 HST
                    go_upto_region 31 with (first
                      | (go_at_call 30; ((with_reducible refine CO2.out.mono ?_); rintro e w4 ⟨rfl, rfl⟩))
                      | (go_at_call 30; ((with_reducible refine CO.out.mono ?_); rintro e w4 ⟨rfl, rfl⟩)))
                    clear u2 f2 b0 c0
                    generalize wr.setCell ⟨gU, x, none⟩ (.bool true) = wS at *
                    have q1 := h5.b1
                    have c3 := h5.arr.cell k hlt
                    have f3 := h5.arr.frozen k
                    have c4 := h5.arr.cell x hxm
                    have f4 := h5.arr.frozen x
                    have hlt' : (k : Int) < (nm : Int) := by omega
                    have H5 := Lib.hid h5
                    clear h5
                    go_region
                    all_goals
                      go_wp2
                      go_roundw
                      case rel => exact ⟨k + 1, by omega, by go_num, by rw [HST2.out], by rw [HST2.out]; have := HFX.out; go_num, by rw [HST2.out]; exact (H5.out.dr.setM k x).setM x k⟩
                      case measure => simp [intOf]; omega
              · have x1 : 4 * (n : Int) ≤ (x : Int) := by have := HNM.out; omega
                have HF : Hid (decM xs = ⟨3, [], [], 0⟩) := Lib.hid (HBADD.out (HBAD.out (k + 1) (by omega) (by rw [HST.out, if_pos (.inl (by omega))])))
                have HXX := Lib.hid (HX.out.kp H2.out.below)
                obtain ⟨r0, r1, r2, rlt⟩ := HXX.out.1
                have g0 := HXX.out.2 0
                have g1 := HXX.out.2 1
                have g2 := HXX.out.2 2
                clear hkx
                go_wp2_with ((go_at_call 30; ((with_reducible refine CO.out.mono ?_); rintro e w4 ⟨rfl, rfl⟩)))
                obtain ⟨k0, k1, k2⟩ := set3p_cells HXX.out (.slice none 0 0) (.slice none 0 0) (.int .i64 0)
                exact bodyPost_ret (v := .tuple #[dval none 0 0 none 0 0 0, .int .i64 3]) (by simp [results, Tryd.results22, go_sem, k0, k1, k2]) rfl (dc_none _ 3 HF.out (set3p_below (below_step hb0 H2.out.below) (Nat.le_refl _) _ _ _))
          · obtain rfl : k = nm := by omega
            have HOK := Lib.hid hok
            have HRM : Hid (RI wr (some ⟨gm, 0, none⟩) k (lnM k (msK sg Y k k).M)) := Lib.hid ⟨lnM_len _ _, fun _ => ⟨_, 0, rfl, h2.arr.lt, fun j hj => by
              rw [Nat.zero_add, h2.arr.cell j hj]; simp [lnM, List.getD, hj]⟩⟩
            have HDV : Hid (DV wr S n (some ⟨gm, 0, none⟩) k sg (lnM k (msK sg Y k k).M)) := Lib.hid ⟨h2.own, HRM.out, by have := HHN.out; omega, by omega, ln_range (msK_inv _ (Nat.le_refl _) hok).2.1 (by omega)⟩
            have hk4 : ¬ (k : Int) < 4 * (n : Int) := by have := HNM.out; omega
            obtain ⟨r, hr⟩ : ∃ r, validB sg (lnM k (msK sg Y k k).M) lp = r := ⟨_, rfl⟩
            have CG := Lib.hid (genus_any S (some ⟨gm, 0, none⟩) n cs k k lp sg (lnM k (msK sg Y k k).M) wr HDV.out r hr)
            unfold dval at CG
            have b0 := h2.b0
            have b1 := h2.b1
            have b2 := h2.b2
            have H2 := Lib.hid h2
            have HRV := Lib.hid hr
            clear hr h2 hok
            cases r with
            | false =>
              go_wp2_with ((go_at_call 55; ((with_reducible refine CG.out.mono ?_); rintro e w4 ⟨rfl, hb4⟩; have HXX := Lib.hid ((HX.out.kp H2.out.below).kp hb4); have r0 := HXX.out.1.1; have r1 := HXX.out.1.2.1; have r2 := HXX.out.1.2.2.1; have g0 := HXX.out.2 0; have g1 := HXX.out.2 1; have g2 := HXX.out.2 2)))
              obtain ⟨k0, k1, k2⟩ := set3p_cells HXX.out (.slice none 0 0) (.slice none 0 0) (.int .i64 0)
              exact bodyPost_ret (v := .tuple #[dval none 0 0 none 0 0 0, .int .i64 7]) (by simp [results, Tryd.results22, go_sem, k0, k1, k2]) rfl (dc_none _ 7 (HNO.out HOK.out HRV.out) (set3p_below (below_step (below_step hb0 H2.out.below) hb4) (Nat.le_refl _) _ _ _))
            | true =>
              go_wp2_with ((go_at_call 55; ((with_reducible refine CG.out.mono ?_); rintro e w4 ⟨rfl, hb4⟩; have HXX := Lib.hid ((HX.out.kp H2.out.below).kp hb4); have r0 := HXX.out.1.1; have r1 := HXX.out.1.2.1; have r2 := HXX.out.1.2.2.1; have g0 := HXX.out.2 0; have g1 := HXX.out.2 1; have g2 := HXX.out.2 2; have d0 := (hb4.cell (p := ⟨gd, 0, none⟩) H2.out.lt).trans b0; have d1 := (hb4.cell (p := ⟨gd, 1, none⟩) H2.out.lt).trans b1; have d2 := (hb4.cell (p := ⟨gd, 2, none⟩) H2.out.lt).trans b2)))
              obtain ⟨k0, k1, k2⟩ := set3p_cells HXX.out (.slice S n cs) (.slice (some ⟨gm, 0, none⟩) k k) (.int .i64 lp)
              have hgl := HX.out.1.2.2.2
              have hfar := H2.out.far
              refine bodyPost_ret (v := .tuple #[dval S n cs (some ⟨gm, 0, none⟩) k k lp, .int .i64 0]) (by simp [results, Tryd.results22, go_sem, k0, k1, k2]) rfl ?_
              have ed := HYES.out HOK.out HRV.out
              rw [ed]
              exact ⟨S, n, cs, some ⟨gm, 0, none⟩, k, k, rfl, (H2.out.own.keep hb4).set3p (fun hn0 => by
                obtain ⟨b', o', e, _⟩ := H2.out.own.2 hn0
                subst e
                exact ⟨b', o', rfl, by have := (hfar _ rfl).2; simp only at this; omega⟩) _ _ _, (HRM.out.keep hb4).set3p (fun _ => ⟨_, _, rfl, by have := H2.out.hM; omega⟩) _ _ _, set3p_below (below_step (below_step hb0 H2.out.below) hb4) (Nat.le_refl _) _ _ _⟩

end Go.Proofs.YtebliaclleplgaaDoor

/- Walk: PlanarDecodes; bytes that come in. -/
namespace Go.Proofs.YtebliaclleplgaaDoor
open Go.ChangeShapes Go.WideShapes Go.ChangeAt Go.RowKit Go.Joins

theorem rdecode_any (A : Option Addr) (N c : Nat) (xs : List Int) (w : World) (hA : RB w A N xs) (hx : byteL xs) : Calls Tryd.prog 22 #[.slice A N c] w (DcPost (decM xs) w) := by
  have hl := hA.1
  by_cases h2 : N < 2
  · exact (rdecode_short A N c w h2).mono fun e w' ⟨he, hb⟩ => by subst he; exact dc_none _ 4 (by unfold decM; rw [if_pos (by omega)]) hb
  have e1 : ¬ xs.length < 2 := by omega
  by_cases hf : 64 < yN xs 0 ∨ 64 < yN xs 1
  · exact (rdecode_full A N c xs w hA hx (by omega) hf).mono fun e w' ⟨he, hb⟩ => by subst he; exact dc_none _ 5 (by unfold decM; rw [if_neg e1, if_pos hf]) hb
  by_cases hs : N < decEnd (yN xs 0)
  · exact (rdecode_short' A N c xs w hA hx (by omega) (by omega) (by omega) hs).mono fun e w' ⟨he, hb⟩ => by subst he; exact dc_none _ 4 (by unfold decM; rw [if_neg e1, if_neg hf, if_pos (by omega)]) hb
  by_cases hg : decEnd (yN xs 0) < N
  · exact (rdecode_long' A N c xs w hA hx (by omega) (by omega) (by omega) hg).mono fun e w' ⟨he, hb⟩ => by subst he; exact dc_none _ 3 (by unfold decM; rw [if_neg e1, if_neg hf, if_neg (by omega), if_pos (by omega)]) hb
  exact rdecode_exact A N c xs w hA hx (by omega) (yN xs 0) (yN xs 1) rfl rfl (by omega) (by omega) (by omega)
theorem decM_len (xs : List Int) : (decM xs).s.length ≤ 64 ∧ (decM xs).m.length ≤ 256 := by
  unfold decM
  repeat' split
  all_goals first
    | (simp; done)
    | (simp only [sgY_len, lnM_len]; omega)

set_option maxHeartbeats 6400000 in
set_option maxRecDepth 100000 in
theorem pdecodes_walk (A : Option Addr) (N c : Nat) (xs : List Int) (w : World) (hA : RB w A N xs) (hc : N ≤ c) (hx : byteL xs) (hP : PW w) :
    Calls Tryd.prog 7 #[.slice A N c] w fun e w' => e = .returned (.bool true) ∧ Below w.heap.size w w' := by
  have CA := Lib.hid (pawake_any w hP)
  obtain ⟨l1, l2⟩ := decM_len xs
  have CE : ∀ W, Below w.heap.size w W → Hid (Calls Tryd.prog 21 #[.slice A N c] W fun e w' => ∃ A ns cs B nm cm, e = .returned (.tuple #[.agg #[.slice A ns cs, .slice B nm cm, .int .i64 (decM xs).lp], .int .i64 (decM xs).E]) ∧ RI w' A ns (decM xs).s ∧ RI w' B nm (decM xs).m ∧ Below W.heap.size W w') := fun W hb => Lib.hid (decode_any A N c xs W (hA.keep hb) hx hc)
  have CR : ∀ W, Below w.heap.size w W → Hid (Calls Tryd.prog 22 #[.slice A N c] W fun e w' => ∃ A ns cs B nm cm, e = .returned (.tuple #[.agg #[.slice A ns cs, .slice B nm cm, .int .i64 (decM xs).lp], .int .i64 (decM xs).E]) ∧ RI w' A ns (decM xs).s ∧ RI w' B nm (decM xs).m ∧ Below W.heap.size W w') := fun W hb => Lib.hid (rdecode_any A N c xs W (hA.keep hb) hx)
  have CQ : ∀ W A B A' B' ns cs nm cm ns' cs' nm' cm', RI W A ns (decM xs).s → RI W B nm (decM xs).m → RI W A' ns' (decM xs).s → RI W B' nm' (decM xs).m → Hid (Calls Tryd.prog 23 #[.agg #[.slice A ns cs, .slice B nm cm, .int .i64 (decM xs).lp], .agg #[.slice A' ns' cs', .slice B' nm' cm', .int .i64 (decM xs).lp]] W fun e w' => e = .returned (.bool true) ∧ Below W.heap.size W w') := fun W A B A' B' ns cs nm cm ns' cs' nm' cm' h1 h2 h3 h4 => Lib.hid (by
    have := requal_any A B A' B' ns cs nm cm ns' cs' nm' cm' (decM xs).lp (decM xs).lp (decM xs).s (decM xs).m (decM xs).s (decM xs).m W h1 h2 h3 h4 (by rw [← h1.1]; omega) (by rw [← h2.1]; omega) (by rw [← h3.1]; omega) (by rw [← h4.1]; omega)
    simpa [eqD] using this)
  generalize decM xs = d at *
  obtain ⟨E, s, m, lp⟩ := d
  simp only at CE CR CQ l1 l2
  clear hA hx hP hc
  go_enter Tryd.func7, Tryd.ntmps7
  go_wp2_with (first
    | (go_at_call 9; ((with_reducible refine CA.out.mono ?_); rintro e w1 ⟨rfl, hb1⟩))
    | (go_at_call 21; ((with_reducible refine (CE _ hb1).out.mono ?_); rintro e w2 ⟨A2, n2, c2, B2, m2, k2, rfl, hs2, hm2, hb2'⟩; have hbB := below_alloc w2 (dbox A2 n2 c2 B2 m2 k2 lp); have hb2 := below_step (below_step hb1 hb2') hbB; have HD2 := Lib.hid (DB.new w2 A2 n2 c2 B2 m2 k2 lp); have HS2 := Lib.hid (hs2.keep hbB); have HM2 := Lib.hid (hm2.keep hbB); clear hs2 hm2))
    | (go_at_call 22; ((with_reducible refine (CR _ hb2).out.mono ?_); rintro e w3 ⟨A3, n3, c3, B3, m3, k3, rfl, hs3, hm3, hb3'⟩; have hbC := below_alloc w3 (dbox A3 n3 c3 B3 m3 k3 lp); have hb3 := below_step (below_step hb2 hb3') hbC; obtain ⟨p0, p1, p2, plt⟩ := (HD2.out.keep hb3').keep hbC; obtain ⟨t0, t1, t2, tlt⟩ := DB.new w3 A3 n3 c3 B3 m3 k3 lp; have HQ := CQ _ A2 B2 A3 B3 n2 c2 m2 k2 n3 c3 m3 k3 ((HS2.out.keep hb3').keep hbC) ((HM2.out.keep hb3').keep hbC) (hs3.keep hbC) (hm3.keep hbC); clear hs3 hm3))
    | (go_at_call 23; ((with_reducible refine HQ.out.mono ?_); rintro e w4 ⟨rfl, hb4⟩)))
  go_ret
  exact ⟨rfl, below_step hb3 hb4⟩

theorem Tryd.cellsU : Tryd.prog.cellsOf 5 = 1 := by kernel_rfl
section
variable {H : Type} {enc : TypeId × Value → H} {W : World}
set_option maxRecDepth 100000 in
/-- A slice of bytes that comes in reads as a list. -/
theorem open_rb {fuel : Nat} {v : Value} {x : DataW H × List MemPlace} (h : DataW.trod enc Tryd.prog W 0 (fun _ => true) true fuel 39 [v] = some x) :
    ∃ A n c xs, v = .slice A n c ∧ RB W A n xs ∧ n ≤ c ∧ byteL xs := by
  rcases open_ints Tryd.underlying39 Tryd.underlying5 Tryd.cellsU h with ⟨hcs, _⟩ | ⟨a, len, cap, zs, hcs, _, hl, hm, hz, _, hcell, hwf⟩
  · injection hcs with hcs _
    exact ⟨none, 0, 0, [], hcs, ⟨rfl, fun h => absurd h (by decide)⟩, Nat.le_refl _, fun i => by simp⟩
  · injection hcs with hcs _
    simp only [if_true] at hz
    refine ⟨some a, len, cap, zs.take len, hcs, ⟨by rw [List.length_take]; omega, fun hn => ?_⟩, hl, fun i => ?_⟩
    · have h0 := hcell 0 (by omega)
      obtain ⟨b, off, spot⟩ := a
      have hspot : spot = none := by simpa [Addr.add] using World.cell?_spot h0
      subst hspot
      refine ⟨b, off, rfl, ?_, fun j hj => ?_⟩
      · have := World.block_lt_of_cell? W _ h0
        simpa [Addr.add] using this
      · have := hcell j (by omega)
        rw [add_plain] at this
        rw [this]
        simp [List.getD, hj]
    · by_cases hi : i < (zs.take len).length
      · have hmem : (zs.take len).getD i 0 ∈ zs := by
          rw [List.getD_eq_getElem?_getD, List.getElem?_eq_getElem hi]
          exact List.mem_of_mem_take (List.getElem_mem hi)
        have hw := hwf _ hmem
        have h1 : IntKind.u8.min = 0 := rfl
        have h2 : IntKind.u8.max = 255 := rfl
        simp only [Lit.wf, Bool.and_eq_true, decide_eq_true_eq] at hw
        omega
      · rw [List.getD_eq_getElem?_getD, List.getElem?_eq_none (by omega)]
        simp
end

end Go.Proofs.YtebliaclleplgaaDoor
