import Derived.Test.YtdamfoobnbjojaaL09
import Derived.Test.YtdamfoobnbjojaaL04
/- Walks of the reference: Face, Faces. -/
namespace Go.Proofs.Ytdamfoobnbjojaa
open Go.RowKit

theorem rturn_face (x : Nat) (hx : x ≤ 1000000) (w : World) : Calls Try.prog 101 #[.int .i64 (x : Int), .int .i64 (-1)] w fun e w' => e = .returned (.int .i64 (trn x 3 : Nat)) ∧ w = w' := by
  rw [← turnI_face]; exact rturn_any _ _ _ (by omega) (by omega) (by omega) (by omega)
theorem rturn_opp (x : Nat) (hx : x ≤ 1000000) (w : World) : Calls Try.prog 101 #[.int .i64 (x : Int), .int .i64 2] w fun e w' => e = .returned (.int .i64 (trn x 2 : Nat)) ∧ w = w' := by
  rw [← turnI_opp]; exact rturn_any _ _ _ (by omega) (by omega) (by omega) (by omega)

set_option maxHeartbeats 1600000 in
set_option maxRecDepth 100000 in
theorem rface_any (B : Option Addr) (nm cm h : Nat) (mate : List Int) (m : Nat → Nat) (w : World) (hm : RI w B nm mate) (hmm : Mates mate nm m) (hp : Perm (ff m) nm) (hh : h < nm) (hN : nm ≤ 256) (x : Int) (hx : x = (h : Nat)) :
    Calls Try.prog 77 #[.slice B nm cm, .int .i64 x] w (CycPost w (itl (ff m) h (per (ff m) nm h))) := by
  subst hx
  have h1 := OI.one w w.heap.size h (Nat.le_refl _)
  have hb1 := below_alloc w (.cells #[.int .i64 (h : Int)] 3)
  obtain ⟨b, off, rfl, hbb, hc⟩ := hm.2 (by omega)
  have HM := Lib.hid hmm
  have HC := Lib.hid hc
  obtain ⟨hmh, hml⟩ := hmm h hh
  have hc0 := (hb1.cell (p := ⟨b, off + h, none⟩) hbb).trans (hc h hh)
  rw [hmh] at hc0
  have HP := Lib.hid hp
  have CT := Lib.hid (rturn_face (m h) (by omega) (w.alloc (.cells #[.int .i64 (h : Int)] 3)))
  have hff : ff m h = trn (m h) 3 := rfl
  rw [← hff] at CT
  have hh0 : (0 : Int) ≤ (h : Int) := Int.natCast_nonneg _
  have hh1 : (h : Int) < (nm : Int) := by omega
  clear hp hmm hc hm hmh hff
  go_enter Try.func77, Try.ntmps77
  go_wp2_with (go_at_call 101; ((with_reducible refine CT.out.mono ?_); rintro e w1 ⟨rfl, rfl⟩))
  go_loopg [5, 6] (per (ff m) nm h - 1) (fun n v g wr => ∃ i : Nat, 0 < i ∧ n + i = per (ff m) nm h ∧ g = .int .i64 (it (ff m) i h : Nat) ∧ Below w.heap.size w wr ∧ OI wr w.heap.size v (itl (ff m) h i))
  case atStart => exact ⟨1, by omega, by have := per_pos (ff m) nm h; omega, rfl, hb1, h1⟩
  case round =>
    obtain ⟨i, hi0, hi, rfl, hbr, hown⟩ := hrel
    have hgl := HP.out.it_lt hh i
    have hpn := (HP.out.per_spec hh).2.1
    have hlen := itl_length (ff m) h i
    obtain ⟨gv, cv, rfl⟩ := hown.form_pos hlen hi0
    by_cases hil : i < per (ff m) nm h
    · have hne : ((it (ff m) i h : Int) != (h : Int)) = true := by
        have := (HP.out.per_spec hh).2.2 i hi0 hil
        simp only [bne_iff_ne, ne_eq]; omega
      have HI := Lib.hid hi
      have hsucc := itl_succ (ff m) h i
      have hil' : (itl (ff m) h i).length ≤ 1000000000 := by omega
      have HIT := Lib.hid (show it (ff m) (i + 1) h = trn (m (it (ff m) i h)) 3 from rfl)
      have HSU := Lib.hid hsucc
      have hle : (i : Int) ≤ (nm : Int) := by omega
      obtain ⟨hmx, hmxl⟩ := HM.out _ hgl
      have HCX := Lib.hid (show w.cell? ⟨b, off + it (ff m) i h, none⟩ = some (.int .i64 (m (it (ff m) i h) : Nat)) from by rw [HC.out _ hgl, hmx])
      clear hi hlen hsucc hmx
      generalize itl (ff m) h i = xs at *
      generalize it (ff m) i h = x at *
      generalize hmxx : m x = y at *
      clear hmxx
      have hx0 : (0 : Int) ≤ (x : Int) := Int.natCast_nonneg _
      have hx1 : (x : Int) < (nm : Int) := by omega
      go_wp2_with (first
        | (at_builtin
           refine wpList_append_int rfl (.tmp 29) (.tmp 31) rfl w.heap.size _ xs rfl (hown.alloc _) wr.heap.size (x : Int) rfl (by rw [World.cell?_alloc_at _ _ _ _ rfl]; rfl) hil' (Nat.le_trans hbr.size (by simp)) ?_
           intro v2 w2 hown2 hg2
           have hb2 : Below w.heap.size w w2 := (below_step hbr (below_alloc wr _)).grown hg2 (Nat.le_trans hbr.size (by simp)) (fun k hk => (World.ownsRow.lt hown k hk).1)
           have hcx := (hb2.cell (p := ⟨b, off + x, none⟩) hbb).trans HCX.out
           have C1 := Lib.hid (rturn_face y (by omega) w2))
        | (go_at_call 101; ((with_reducible refine C1.out.mono ?_); rintro e w3 ⟨rfl, rfl⟩)))
      go_roundg (gk - 1)
      case measure => have := HI.out; omega
      case rel => exact ⟨i + 1, by omega, by have := HI.out; omega, by rw [HIT.out], hb2, by rw [HSU.out]; exact hown2⟩
    · have hip : i = per (ff m) nm h := by omega
      have hret : it (ff m) i h = h := by rw [hip]; exact (HP.out.per_spec hh).1
      rw [hret]
      rw [hip] at hown
      have HF := Lib.hid (show CycPost w (itl (ff m) h (per (ff m) nm h)) (.returned (.slice (some ⟨gv, 0, none⟩) i cv)) wr from ⟨_, rfl, by rw [hip]; exact hown, hbr⟩)
      clear hret hip hil hi hlen hown
      go_wp2
      go_ret
      exact HF.out

theorem sel_true (f : Nat → Nat) (N h : Nat) : sel f N (fun _ => true) h = fst f N h := by simp [sel, fst]
theorem all_itl (f : Nat → Nat) (N h : Nat) : fst f N h = (List.range (per f N h)).all (fun i => decide (h ≤ it f i h)) := by
  unfold fst cyc; rw [List.all_map]; rfl
theorem all_range_succ (p : Nat → Bool) (k : Nat) : (List.range (k + 1)).all p = ((List.range k).all p && p k) := by
  rw [List.range_succ, List.all_append]; simp

set_option maxHeartbeats 1600000 in
set_option maxRecDepth 100000 in
theorem rfaces_any (B : Option Addr) (nm cm : Nat) (mate : List Int) (m : Nat → Nat) (w : World) (hm : RI w B nm mate) (hmm : Mates mate nm m) (hp : Perm (ff m) nm) (hN : nm ≤ 256) :
    Calls Try.prog 48 #[.slice B nm cm] w (CycsPost w (cycL (ff m) nm (fun _ => true) nm)) := by
  have HP := Lib.hid hp
  have HMM := Lib.hid hmm
  clear hp hmm
  go_enter Try.func48, Try.ntmps48
  go_wp2
  go_loopw [3, 4, 5, 6, 7] (fun v i _ _ _ wr => ∃ k : Nat, k ≤ nm ∧ i = .int .i64 k ∧ Below w.heap.size w wr ∧ OO wr w.heap.size v (cycL (ff m) nm (fun _ => true) k)) (fun _ i _ _ _ _ => nm - (intOf i).toNat)
  case atStart => exact ⟨0, by omega, rfl, Below.refl _ _, OO.nil _ _⟩
  case round =>
    obtain ⟨k, hk, rfl, hbr, hown⟩ := hrel
    by_cases hlt : k < nm
    · have CF := Lib.hid (rface_any B nm cm k mate m wr (hm.keep hbr) HMM.out HP.out hlt hN _ rfl)
      have hpn := (HP.out.per_spec hlt).2.1
      have hk0 : (0 : Int) ≤ (k : Int) := Int.natCast_nonneg _
      have hk1 : (k : Int) < (nm : Int) := by omega
      go_wp2_with (go_at_call 77; ((with_reducible refine CF.out.mono ?_); rintro e w2 ⟨vm, rfl, hom, hb2⟩; obtain ⟨gm, cpm, rfl⟩ := hom.form_pos (itl_length (ff m) k (per (ff m) nm k)) (per_pos (ff m) nm k)))
      have hbw2 := below_step hbr hb2
      have hszr := hbr.size
      have hown2 := hown.keep hb2
      clear hown hb2 hbr CF
      go_loop [6, 7] (fun l i => ∃ j : Nat, j ≤ per (ff m) nm k ∧ i = .int .i64 j ∧ l = .bool ((List.range j).all (fun q => decide (k ≤ it (ff m) q k)))) (fun _ i => per (ff m) nm k - (intOf i).toNat)
      case atStart => exact ⟨0, by omega, rfl, rfl⟩
      case round =>
        obtain ⟨j, hj, rfl, rfl⟩ := hrel
        by_cases hjl : j < per (ff m) nm k
        · have hcm : w2.cell? ⟨gm, j, none⟩ = some (.int .i64 (it (ff m) j k : Nat)) := by
            have := hom.cell j (by rw [itl_length]; exact hjl)
            rwa [itl_getD _ _ _ _ hjl] at this
          have HAS := Lib.hid (all_range_succ (fun q => decide (k ≤ it (ff m) q k)) j)
          have hit := HP.out.it_lt hlt j
          generalize it (ff m) j k = x at *
          have hx0 : (0 : Int) ≤ (x : Int) := Int.natCast_nonneg _
          have hj0 : (0 : Int) ≤ (j : Int) := Int.natCast_nonneg _
          have hj1 : (j : Int) < (per (ff m) nm k : Int) := by omega
          generalize hall : (List.range j).all (fun q => decide (k ≤ it (ff m) q k)) = a at *
          clear hall
          cases a with
          | false =>
            go_wp2
            go_round
            case rel => exact ⟨j + 1, by omega, by go_num, by rw [HAS.out]; simp⟩
            case measure => simp [intOf]; omega
          | true =>
            by_cases hkx : k ≤ x
            · have hd : decide (k ≤ x) = true := by simp [hkx]
              have hd' : decide ((k : Int) ≤ (x : Int)) = true := by simp [hkx]
              go_wp2
              go_round
              case rel => exact ⟨j + 1, by omega, by go_num, by rw [HAS.out]; simp [hkx]⟩
              case measure => simp [intOf]; omega
            · have hd : decide (k ≤ x) = false := by simp [hkx]
              have hd' : decide ((k : Int) ≤ (x : Int)) = false := by simp; omega
              go_wp2
              go_round
              case rel => exact ⟨j + 1, by omega, by go_num, by rw [HAS.out]; simp [hkx]⟩
              case measure => simp [intOf]; omega
        · obtain rfl : j = per (ff m) nm k := by omega
          have hcy := cycL_succ (ff m) nm (fun _ => true) k
          rw [sel_true, all_itl] at hcy
          have hlen := cycL_length (ff m) nm (fun _ => true) k
          have hsz := hbw2.size
          have hom' := hom.mono (B' := w.heap.size) hszr
          cases hall : (List.range (per (ff m) nm k)).all (fun q => decide (k ≤ it (ff m) q k)) with
          | false =>
            rw [hall] at hcy
            have hcy' : cycL (ff m) nm (fun _ => true) (k + 1) = cycL (ff m) nm (fun _ => true) k := by rw [hcy]; simp
            have HO := Lib.hid (show OO w2 w.heap.size u3 (cycL (ff m) nm (fun _ => true) (k + 1)) from by rw [hcy']; exact hown2)
            clear hcy hcy' hown2 hall
            go_wp2
            go_roundw
            case rel => exact ⟨k + 1, by omega, by go_num, hbw2, HO.out⟩
            case measure => simp [intOf]; omega
          | true =>
            rw [hall] at hcy
            have HCY := Lib.hid (show cycL (ff m) nm (fun _ => true) (k + 1) = cycL (ff m) nm (fun _ => true) k ++ [itl (ff m) k (per (ff m) nm k)] from by rw [hcy]; simp)
            clear hcy hall
            go_wp2_with (at_builtin
                         refine wpList_append_row rfl (.tmp 33) (.tmp 35) rfl w.heap.size u3 (cycL (ff m) nm (fun _ => true) k) rfl (hown2.keep (below_alloc _ _)) w2.heap.size (.slice (some ⟨gm, 0, none⟩) (per (ff m) nm k) cpm) (itl (ff m) k (per (ff m) nm k)) rfl (by rw [World.cell?_alloc_at _ _ _ _ rfl]; rfl) (hom'.alloc _) (by omega) (Nat.le_trans hsz (by simp)) ?_
                         intro v2 w3 ho2 hg2)
            go_roundw
            case rel => exact ⟨k + 1, by omega, by go_num, (below_step hbw2 (below_alloc w2 _)).grown hg2 (Nat.le_trans hsz (by simp)) (fun q hq => (hown2.lt q hq).1), by rw [HCY.out]; exact ho2⟩
            case measure => simp [intOf]; omega
    · obtain rfl : k = nm := by omega
      clear hlt hk hm
      go_wp2
      go_ret
      exact ⟨_, rfl, hown, hbr⟩

end Go.Proofs.Ytdamfoobnbjojaa

/- Walk of the reference's Label. -/
namespace Go.Proofs.Ytdamfoobnbjojaa
open Go.RowKit

theorem OI.of_arr {w : World} {g n B : Nat} {L : Nat → Nat} (h : Arr w g 3 n (iv L)) (hB : B ≤ g) (hn : n ≤ 1000000) : OI w B (.slice (some ⟨g, 0, none⟩) n n) ((List.range n).map fun i => (L i : Int)) := by
  refine ⟨by simp [ints], .inr ⟨g, n, cellsN n (iv L), by simp, hB, h, by simp, by unfold maxLen; omega, by simp [cellsN], ?_⟩⟩
  simp [cellsN, ints]
  rw [List.take_of_length_le (by simp)]
  rfl

theorem lowStep_same (m l : Nat → Nat) (h : Nat) (e : h / 4 = m h / 4) : lowStep m l h = upd l (m h / 4) (min (l (h / 4)) (l (m h / 4))) := by
  funext i; unfold lowStep upd; rw [e]; split <;> rfl

set_option maxHeartbeats 3200000 in
set_option maxRecDepth 100000 in
theorem label_any (B : Option Addr) (nm cm n : Nat) (mate : List Int) (m : Nat → Nat) (w : World) (hm : RI w B nm mate) (hmm : Mates mate nm m) (hn : nm = 4 * n) (hN : nm ≤ 256) :
    Calls Try.prog 47 #[.slice B nm cm] w (CycPost w ((List.range n).map fun i => (labAt m nm n i : Int))) := by
  have hmk := fun W => make_one (P := Try.prog) Try.underlying22 Try.infoInt rfl n (by omega) (by omega) W
  have hb0 := below_alloc w (.cells (cellsN n fun _ => .int .i64 0) 3)
  have ha0 := Arr.new w n 3 (iv fun _ => 0)
  have HMM := Lib.hid hmm
  have HN := Lib.hid hn
  have hdiv : IntKind.i64.wrap ((nm : Int) / 4) = (n : Int) := by rw [IntWalk.i64_in _ (by omega)]; omega
  have hdiv' : (nm : Int) / 4 = (n : Int) := by omega
  clear hmm hn
  go_enter Try.func47, Try.ntmps47
  go_wp2
  have hz : (cellsN n fun _ => Value.int .i64 0) = cellsN n (iv fun _ => 0) := rfl
  rw [hz] at hb0 ⊢
  generalize w.alloc (.cells (cellsN n (iv fun _ => 0)) 3) = wA at ha0 hb0 ⊢
  clear hz hmk hdiv
  go_loopw [5] (fun i wr => ∃ k : Nat, k ≤ n ∧ i = .int .i64 k ∧ Below w.heap.size w wr ∧ Arr wr w.heap.size 3 n (iv (cutN k fun i => i))) (fun i _ => n - (intOf i).toNat)
  case atStart => exact ⟨0, by omega, rfl, hb0, ha0⟩
  case round =>
    obtain ⟨k, hk, rfl, hbr, har⟩ := hrel
    by_cases hlt : k < n
    · have hcell := har.cell k hlt
      have hfz := har.frozen k
      have hk0 : (0 : Int) ≤ (k : Int) := Int.natCast_nonneg _
      have hk1 : (k : Int) < (n : Int) := by omega
      have HZ := Lib.hid (show Arr (wr.setCell ⟨w.heap.size, k, none⟩ (.int .i64 (k : Nat))) w.heap.size 3 n (iv (cutN (k + 1) fun i => i)) from by have := har.seti k k; rwa [cutN_grow (fun i => i) k] at this)
      clear har ha0
      go_wp2
      go_roundw
      case rel => exact ⟨k + 1, by omega, by go_num, below_set hbr (Nat.le_refl _) _, HZ.out⟩
      case measure => simp [intOf]; omega
    · obtain rfl : k = n := by omega
      have har0 : Arr wr w.heap.size 3 k (iv (labAt m nm 0)) := har.congr fun i hi => by simp [iv, cutN, labAt, hi]
      obtain ⟨wB, hwB⟩ : ∃ wB : World, wB = wr := ⟨_, rfl⟩
      subst hwB
      clear hlt hk har ha0 hb0
      go_wp2
      go_loopw [6, 7, 8, 9, 10] (fun i _ _ _ _ wr => ∃ p : Nat, p ≤ k ∧ i = .int .i64 p ∧ Below w.heap.size w wr ∧ Arr wr w.heap.size 3 k (iv (labAt m nm p))) (fun i _ _ _ _ _ => k - (intOf i).toNat)
      case atStart => exact ⟨0, by omega, rfl, hbr, har0⟩
      case round =>
        obtain ⟨p, hp, rfl, hbp, hap⟩ := hrel
        by_cases hlt : p < k
        · obtain ⟨wC, hwC⟩ : ∃ wC : World, wC = wr := ⟨_, rfl⟩
          subst hwC
          have hap0 : Arr wC w.heap.size 3 k (iv (passAt m (labAt m nm p) 0)) := hap
          clear hap har0
          go_wp2
          go_loopw [7, 8, 9, 10] (fun i _ _ _ wr => ∃ q : Nat, q ≤ nm ∧ i = .int .i64 q ∧ Below w.heap.size w wr ∧ Arr wr w.heap.size 3 k (iv (passAt m (labAt m nm p) q))) (fun i _ _ _ _ => nm - (intOf i).toNat)
          case atStart => exact ⟨0, by omega, rfl, hbp, hap0⟩
          case round =>
            obtain ⟨q, hq, rfl, hbq, haq⟩ := hrel
            by_cases hql : q < nm
            · obtain ⟨b, off, rfl, hbb, hc⟩ := (hm.keep hbq).2 (by omega)
              have hcq := hc q hql
              obtain ⟨hmq, hml⟩ := HMM.out q hql
              rw [hmq] at hcq
              have hq4 : q / 4 < k := by have := HN.out; omega
              have hm4 : m q / 4 < k := by have := HN.out; omega
              have hca := haq.cell (q / 4) hq4
              have hcb := haq.cell (m q / 4) hm4
              have hfa := haq.frozen (q / 4)
              have hfb := haq.frozen (m q / 4)
              have hle1 := pass_le m (labAt m nm p) q (q / 4)
              have hle2 := pass_le m (labAt m nm p) q (m q / 4)
              have hle3 := lab_le m nm p (q / 4)
              have hle4 := lab_le m nm p (m q / 4)
              have hx : passAt m (labAt m nm p) q (q / 4) ≤ 1000 := by omega
              have hy : passAt m (labAt m nm p) q (m q / 4) ≤ 1000 := by omega
              have hstep : Arr ((wr.setCell ⟨w.heap.size, q / 4, none⟩ (.int .i64 (min (passAt m (labAt m nm p) q (q / 4)) (passAt m (labAt m nm p) q (m q / 4)) : Nat))).setCell ⟨w.heap.size, m q / 4, none⟩ (.int .i64 (min (passAt m (labAt m nm p) q (q / 4)) (passAt m (labAt m nm p) q (m q / 4)) : Nat))) w.heap.size 3 k (iv (passAt m (labAt m nm p) (q + 1))) :=
                (haq.seti (q / 4) _).seti (m q / 4) _
              have hcb2 := (haq.seti (q / 4) (min (passAt m (labAt m nm p) q (q / 4)) (passAt m (labAt m nm p) q (m q / 4)))).cell (m q / 4) hm4
              have hfb2 := (haq.seti (q / 4) (min (passAt m (labAt m nm p) q (q / 4)) (passAt m (labAt m nm p) q (m q / 4)))).frozen (m q / 4)
              have hb2 : Below w.heap.size w ((wr.setCell ⟨w.heap.size, q / 4, none⟩ (.int .i64 (min (passAt m (labAt m nm p) q (q / 4)) (passAt m (labAt m nm p) q (m q / 4)) : Nat))).setCell ⟨w.heap.size, m q / 4, none⟩ (.int .i64 (min (passAt m (labAt m nm p) q (q / 4)) (passAt m (labAt m nm p) q (m q / 4)) : Nat))) :=
                below_set (below_set hbq (Nat.le_refl _) _) (Nat.le_refl _) _
              generalize upd (passAt m (labAt m nm p) q) (q / 4) (min (passAt m (labAt m nm p) q (q / 4)) (passAt m (labAt m nm p) q (m q / 4))) (m q / 4) = z at hcb2
              have HZ := Lib.hid hstep
              have HB := Lib.hid hb2
              have H1 := Lib.hid hcb2
              have H2 := Lib.hid hfb2
              clear hstep hb2 hcb2 hfb2 haq hc hmq hle1 hle2 hle3 hle4 hap0
              have hca' : wr.cell? ⟨w.heap.size, q / 4, none⟩ = some (.int .i64 (passAt m (labAt m nm p) q (q / 4) : Nat)) := hca
              have hcb' : wr.cell? ⟨w.heap.size, m q / 4, none⟩ = some (.int .i64 (passAt m (labAt m nm p) q (m q / 4) : Nat)) := hcb
              clear hca hcb
              generalize passAt m (labAt m nm p) q (q / 4) = x at *
              generalize passAt m (labAt m nm p) q (m q / 4) = y at *
              generalize hmx : m q = mq at *
              clear hmx
              have hq0 : (0 : Int) ≤ (q : Int) := Int.natCast_nonneg _
              have hq1 : (q : Int) < (nm : Int) := by omega
              have hm0 : (0 : Int) ≤ (mq : Int) := Int.natCast_nonneg _
              have hx0 : (0 : Int) ≤ (x : Int) := Int.natCast_nonneg _
              have hy0 : (0 : Int) ≤ (y : Int) := Int.natCast_nonneg _
              have hq41 : (q : Int) / 4 < (k : Int) := by omega
              have hm41 : (mq : Int) / 4 < (k : Int) := by omega
              have hq40 : (0 : Int) ≤ (q : Int) / 4 := by omega
              have hm40 : (0 : Int) ≤ (mq : Int) / 4 := by omega
              have hw1 : IntKind.i64.wrap ((q : Int) / 4) = (q : Int) / 4 := IntWalk.i64_in _ (by omega)
              have hw2 : IntKind.i64.wrap ((mq : Int) / 4) = (mq : Int) / 4 := IntWalk.i64_in _ (by omega)
              have hcs : (x < y ∧ min x y = x) ∨ (x = y ∧ min x y = y) ∨ (y < x ∧ min x y = y) := by omega
              have hmn : min x y ≤ 1000 := by omega
              generalize min x y = lo at *
              go_wp2
              go_quiet (fail)
              go_wp2
              obtain ⟨v1, h1⟩ : ∃ v, ∀ N, ((wr.drewN N).setCell ⟨w.heap.size, q / 4, none⟩ (.int .i64 (lo : Nat))).cell? ⟨w.heap.size, mq / 4, none⟩ = some v := ⟨_, fun _ => H1.out⟩
              have h2 : ∀ N, ((wr.drewN N).setCell ⟨w.heap.size, q / 4, none⟩ (.int .i64 (lo : Nat))).frozen? ⟨w.heap.size, mq / 4, none⟩ = false := fun _ => H2.out
              clear H1 H2
              rcases hcs with ⟨hxy, rfl⟩ | ⟨rfl, rfl⟩ | ⟨hxy, rfl⟩
              all_goals
                go_quiet (fail)
                go_wp2
                go_roundw
                case rel => exact ⟨q + 1, by omega, by go_num, below_set (below_set (below_drewN hbq _) (Nat.le_refl _) _) (Nat.le_refl _) _, HZ.out⟩
                case measure => simp [intOf]; omega
            · obtain rfl : q = nm := by omega
              have hap1 : Arr wr w.heap.size 3 k (iv (labAt m q (p + 1))) := haq
              clear haq hql hq hap0
              have hp0 : (0 : Int) ≤ (p : Int) := Int.natCast_nonneg _
              go_wp2
              go_roundw
              case rel => exact ⟨p + 1, by omega, by go_num, hbq, hap1⟩
              case measure => simp [intOf]; omega
        · obtain rfl : p = k := by omega
          have HO := Lib.hid (OI.of_arr hap (Nat.le_refl _) (by have := HN.out; omega))
          clear hlt hp hap har0
          go_wp2
          go_ret
          exact ⟨_, rfl, HO.out, hbp⟩

end Go.Proofs.Ytdamfoobnbjojaa

/- Walk of the reference's Valid. -/
namespace Go.Proofs.Ytdamfoobnbjojaa
open Go.RowKit

theorem sgnsB_bad {xs : List Int} {k : Nat} (hk : k < xs.length) (h : sgB (xs.getD k 0) = false) : sgnsB xs = false := by
  cases e : sgnsB xs with
  | false => rfl
  | true => rw [(sgnsB_iff xs).1 e k hk] at h; cases h
theorem pairB_bad {signs mate : List Int} {k : Nat} (hk : k < mate.length) (h : pOK signs mate k = false) : pairB signs mate = false := by
  cases e : pairB signs mate with
  | false => rfl
  | true => rw [(pairB_iff _ _).1 e k hk] at h; cases h
theorem validB_lim {signs mate : List Int} {lp : Int} (h : limB signs.length mate.length lp = false) : validB signs mate lp = false := by simp [validB, h]
theorem validB_sg {signs mate : List Int} {lp : Int} (h : sgnsB signs = false) : validB signs mate lp = false := by simp [validB, h]
theorem validB_pair {signs mate : List Int} {lp : Int} (h : pairB signs mate = false) : validB signs mate lp = false := by simp [validB, h]
theorem validB_sph {signs mate : List Int} {lp : Int} (h : sphM mate signs.length = false) : validB signs mate lp = false := by simp [validB, h]

def heads (f : Nat → Nat) (N : Nat) : List Nat := (List.range N).filter (fst f N)
theorem cycL_heads (f : Nat → Nat) (N : Nat) : cycL f N (fun _ => true) N = (heads f N).map (fun h => itl f h (per f N h)) := by
  unfold cycL heads
  rw [List.filter_congr fun h _ => sel_true f N h]
theorem heads_length (f : Nat → Nat) (N : Nat) : (cycL f N (fun _ => true) N).length = (heads f N).length := by rw [cycL_heads, List.length_map]
theorem cntF_heads (F f : Nat → Nat) (N l : Nat) : (heads f N).countP (fun h => F (h / 4) == l) = cntF F f N N l := by
  unfold heads cntF
  rw [List.countP_filter]
  exact List.countP_congr fun h _ => by simp [and_comm]
theorem heads_el (f : Nat → Nat) (N i : Nat) (hi : i < (heads f N).length) : (cycL f N (fun _ => true) N).getD i [] = itl f ((heads f N).getD i 0) (per f N ((heads f N).getD i 0)) := by
  rw [cycL_heads]
  simp [List.getD, hi]
theorem heads_lt (f : Nat → Nat) (N i : Nat) (hi : i < (heads f N).length) : (heads f N).getD i 0 < N := by
  have e : (heads f N).getD i 0 = (heads f N)[i] := by simp [List.getD, hi]
  rw [e]
  have := List.getElem_mem hi
  exact List.mem_range.1 (List.mem_filter.1 this).1
theorem countP_take_succ (p : Nat → Bool) (l : List Nat) (i : Nat) (hi : i < l.length) : (l.take (i + 1)).countP p = (l.take i).countP p + if p (l.getD i 0) then 1 else 0 := by
  have e : l.getD i 0 = l[i] := by simp [List.getD, hi]
  rw [List.take_succ_eq_append_getElem hi, List.countP_append, e]
  simp [List.countP_cons]

set_option maxHeartbeats 6400000 in
set_option maxRecDepth 100000 in
theorem rvalid_main (r : Bool) (A B : Option Addr) (ns cs nm cm : Nat) (lp : Int) (signs mate : List Int) (w : World) (h : DV w A ns B nm signs mate) (h1 : ns ≤ 64) (h2 : nm = 4 * ns) (h3 : 0 ≤ lp) (h4 : lp ≤ 64) (hr : r = validB signs mate lp) :
    Calls Try.prog 16 #[dval A ns cs B nm cm lp] w fun e w' => e = .returned (.bool r) ∧ Below w.heap.size w w' := by
  have hd := DB.new w A ns cs B nm cm lp
  have hb0 := below_alloc w (dbox A ns cs B nm cm lp)
  have hls := h.hs.1
  have hlm := h.hm.1
  have HR := Lib.hid hr
  have HNM := Lib.hid h2
  have HLS := Lib.hid hls
  have HLM := Lib.hid hlm
  have H := Lib.hid (h.keep hb0)
  have hE : (nm : Int) = 4 * (ns : Int) := by omega
  have hE' : ((nm : Int) != 4 * (ns : Int)) = false := by simp [hE]
  clear hr h hls hlm h2 hE
  go_enter Try.func16, Try.ntmps16
  obtain ⟨d0, d1, d2, dlt⟩ := hd
  generalize hwA : w.alloc (dbox A ns cs B nm cm lp) = wA at hb0 H d0 d1 d2 dlt
  go_upto_region 4 with (fail)
  clear hwA
  have hnsI : (ns : Int) ≤ 64 := by omega
  have HE1 : Hid (∀ j, j < 0 → sgB (signs.getD j 0) = true) := fun j hj => absurd hj (by omega)
  go_wp2
  go_loop [4] (fun i => ∃ k : Nat, k ≤ ns ∧ i = .int .i64 k ∧ Hid (∀ j, j < k → sgB (signs.getD j 0) = true)) (fun i => ns - (intOf i).toNat)
  case atStart => exact ⟨0, by omega, rfl, HE1⟩
  case round =>
    obtain ⟨k, hk, rfl, hall⟩ := hrel
    by_cases hlt : k < ns
    · obtain ⟨b, off, rfl, hbb, hc⟩ := H.out.hs.2 (by omega)
      have hck := hc k hlt
      have hk0 : (0 : Int) ≤ (k : Int) := Int.natCast_nonneg _
      have hk1 : (k : Int) < (ns : Int) := by omega
      cases hsg : sgB (signs.getD k 0) with
      | true =>
        have hall' : Hid (∀ j, j < k + 1 → sgB (signs.getD j 0) = true) := fun j hj => by
          by_cases e : j = k
          · subst e; exact hsg
          · exact hall.out j (by omega)
        clear hc
        generalize signs.getD k 0 = x at hck hsg
        have hcase : x = 1 ∨ x = -1 := by unfold sgB at hsg; simpa using hsg
        clear hsg
        rcases hcase with rfl | rfl
        all_goals
          go_wp2
          go_round
          case rel => exact ⟨k + 1, by omega, by go_num, hall'⟩
          case measure => simp [intOf]; omega
      | false =>
        obtain rfl : r = false := HR.out.trans (validB_sg (sgnsB_bad (by rw [HLS.out]; exact hlt) hsg))
        clear hc HR
        generalize signs.getD k 0 = x at hck hsg
        have hx1 : (x != 1) = true := by unfold sgB at hsg; simp at hsg; simp [hsg.1]
        have hx2 : (x != -1) = true := by unfold sgB at hsg; simp at hsg; simp [hsg.2]
        clear hsg
        go_wp2
        go_ret
        exact ⟨rfl, hb0⟩
    · obtain rfl : k = ns := by omega
      have HSG := Lib.hid ((sgnsB_iff signs).2 (by rw [HLS.out]; exact hall.out))
      have HE2 : Hid (∀ j, j < 0 → pOK signs mate j = true) := fun j hj => absurd hj (by omega)
      clear hlt hk hall HE1
      go_wp2
      go_loopw [5, 6] (fun i _ wr => ∃ q : Nat, q ≤ nm ∧ i = .int .i64 q ∧ Below wA.heap.size wA wr ∧ Hid (∀ j, j < q → pOK signs mate j = true)) (fun i _ _ => nm - (intOf i).toNat)
      case atStart => exact ⟨0, by omega, rfl, Below.refl _ _, HE2⟩
      case round =>
        obtain ⟨q, hq, rfl, hbr, hall⟩ := hrel
        have d0' := (hbr.cell (p := ⟨w.heap.size, 0, none⟩) dlt).trans d0
        have d1' := (hbr.cell (p := ⟨w.heap.size, 1, none⟩) dlt).trans d1
        have hq0 : (0 : Int) ≤ (q : Int) := Int.natCast_nonneg _
        by_cases hlt : q < nm
        · obtain ⟨b, off, rfl, hbb, hc⟩ := (H.out.hm.keep hbr).2 (by omega)
          have hsr := H.out.hs.keep hbr
          have hrange := H.out.hrange
          have hcq : wr.cell? ⟨b, off + q, none⟩ = some (.int .i64 (mt mate q)) := hc q hlt
          have hq1 : (q : Int) < (nm : Int) := by omega
          have hq4 : q / 4 < k := by have := HNM.out; omega
          have hq2 : (q : Int) < 4 * (k : Int) := by have := HNM.out; omega
          cases hp : pOK signs mate q with
          | true =>
            have hall' : Hid (∀ j, j < q + 1 → pOK signs mate j = true) := fun j hj => by
              by_cases e : j = q
              · subst e; exact hp
              · exact hall.out j (by omega)
            obtain ⟨m, hmk, hmlt, hmm, hne⟩ := pOK_out hp HLM.out
            have hcm : wr.cell? ⟨b, off + m, none⟩ = some (.int .i64 (mt mate m)) := hc m hmlt
            rw [hmk] at hcq
            rw [hmm] at hcm
            have hm4 : m / 4 < k := by have := HNM.out; omega
            have hmq : ((m : Int) == (q : Int)) = false := by
              simp only [beq_eq_false_iff_ne, ne_eq]
              intro e
              have : m = q := by omega
              subst this; exact hne rfl
            have C1 := Lib.hid (rout_any A k cs signs q wr.drew hsr hq4 (by omega))
            have C2 := Lib.hid (rout_any A k cs signs m wr.drew hsr hm4 (by omega))
            have hne' : outB signs m = !(outB signs q) := by cases h1 : outB signs q <;> cases h2 : outB signs m <;> simp_all
            rw [hne'] at C2
            clear hne hne' hc hmk hmm hp hsr hrange
            generalize outB signs q = p at C1 C2
            have hm0 : (0 : Int) ≤ (m : Int) := Int.natCast_nonneg _
            have hm0' : decide ((m : Int) < 0) = false := by simp only [decide_eq_false_iff_not]; omega
            have hm1'' : decide (4 * (k : Int) ≤ (m : Int)) = false := by have := HNM.out; simp only [decide_eq_false_iff_not]; omega
            have hm1' : (m : Int) < (nm : Int) := by omega
            have hw4 : IntKind.i64.wrap (4 * (k : Int)) = 4 * (k : Int) := IntWalk.i64_in _ (by omega)
            go_wp2
            go_region_held3 (fun w' => w'.cell? ⟨w.heap.size, 0, none⟩ = some (.slice A k cs) ∧ w'.cell? ⟨w.heap.size, 1, none⟩ = some (.slice (some ⟨b, off, none⟩) nm cm) ∧ w'.cell? ⟨b, off + m, none⟩ = some (.int .i64 (q : Int)))
              (go_keep)
              (first
                | (go_at_call 46; ((with_reducible refine C1.out.mono ?_); rintro e w' ⟨rfl, rfl⟩))
                | (go_at_call 46; ((with_reducible refine C2.out.mono ?_); rintro e w' ⟨rfl, rfl⟩)))
            go_wp2
            go_roundw
            case rel => exact ⟨q + 1, by omega, by go_num, hbr.drew, hall'⟩
            case measure => simp [intOf]; omega
          | false =>
            obtain rfl : r = false := HR.out.trans (validB_pair (pairB_bad (by rw [HLM.out]; exact hlt) hp))
            have hcase := pOK_bad hp HLM.out
            have hr0 := hrange q hlt
            have hbw := hb0.trans (hbr.mono hb0.size)
            have hw4 : IntKind.i64.wrap (4 * (k : Int)) = 4 * (k : Int) := IntWalk.i64_in _ (by omega)
            clear hp HR hall
            rcases hcase with hneg | hbig | ⟨m, hmk, hmlt, hrest⟩
            · have hx1 : decide (mt mate q < 0) = true := by simp only [decide_eq_true_eq]; omega
              clear hc hrange hsr
              generalize mt mate q = x at hcq hneg hx1 hr0
              obtain ⟨hr1, hr2⟩ := hr0
              go_wp2
              go_quiet (fail)
              go_wp2
              go_ret
              exact ⟨rfl, by first | exact hbw.drew | exact below_drewN hbw _⟩
            · have hx1 : decide (mt mate q < 0) = false := by simp only [decide_eq_false_iff_not]; omega
              have hx2 : decide (4 * (k : Int) ≤ mt mate q) = true := by have := HNM.out; simp only [decide_eq_true_eq]; omega
              clear hc hrange hsr
              generalize mt mate q = x at hcq hbig hx1 hx2 hr0
              obtain ⟨hr1, hr2⟩ := hr0
              go_wp2
              go_quiet (fail)
              go_wp2
              go_ret
              exact ⟨rfl, by first | exact hbw.drew | exact below_drewN hbw _⟩
            · have hm0 : (0 : Int) ≤ (m : Int) := Int.natCast_nonneg _
              have hm0' : decide ((m : Int) < 0) = false := by simp only [decide_eq_false_iff_not]; omega
              have hm1'' : decide (4 * (k : Int) ≤ (m : Int)) = false := by have := HNM.out; simp only [decide_eq_false_iff_not]; omega
              have hm1' : (m : Int) < (nm : Int) := by omega
              have hm4 : m / 4 < k := by have := HNM.out; omega
              by_cases hmq : m = q
              · subst hmq
                rw [hmk] at hcq
                clear hc hrange hsr hrest hmk hr0
                go_wp2
                go_quiet (fail)
                go_wp2
                go_ret
                exact ⟨rfl, by first | exact hbw.drew | exact below_drewN hbw _⟩
              · have hmqb : ((m : Int) == (q : Int)) = false := by simp only [beq_eq_false_iff_ne, ne_eq]; omega
                have hcm : wr.cell? ⟨b, off + m, none⟩ = some (.int .i64 (mt mate m)) := hc m hmlt
                have hrm := hrange m hmlt
                rw [hmk] at hcq
                rcases hrest with hne | ⟨heq, hout⟩
                · have hx : (mt mate m != (q : Int)) = true := by simp [hne]
                  clear hc hrange hsr hmk hr0
                  generalize mt mate m = x at hcm hx hne hrm
                  go_wp2
                  go_quiet (fail)
                  go_wp2
                  go_ret
                  exact ⟨rfl, by first | exact hbw.drew | exact below_drewN hbw _⟩
                · rw [heq] at hcm
                  have C1 := Lib.hid (rout_any A k cs signs q wr.drew hsr hq4 (by omega))
                  have C2 := Lib.hid (rout_any A k cs signs m wr.drew hsr hm4 (by omega))
                  rw [hout] at C2
                  clear hout heq hc hmk hrange hsr hr0 hrm
                  generalize outB signs q = p at C1 C2
                  go_wp2
                  go_region_held3 (fun w' => w'.cell? ⟨w.heap.size, 0, none⟩ = some (.slice A k cs) ∧ w'.cell? ⟨w.heap.size, 1, none⟩ = some (.slice (some ⟨b, off, none⟩) nm cm) ∧ w'.cell? ⟨b, off + m, none⟩ = some (.int .i64 (q : Int)))
                    (go_keep)
                    (first
                      | (go_at_call 46; ((with_reducible refine C1.out.mono ?_); rintro e w' ⟨rfl, rfl⟩))
                      | (go_at_call 46; ((with_reducible refine C2.out.mono ?_); rintro e w' ⟨rfl, rfl⟩)))
                  go_wp2
                  go_ret
                  exact ⟨rfl, by first | exact hbw.drew | exact below_drewN hbw _⟩
        · obtain rfl : q = nm := by omega
          have HPB := Lib.hid ((pairB_iff signs mate).2 (by rw [HLM.out]; exact hall.out))
          have HM := Lib.hid (matesOf_mates HPB.out HLM.out)
          have HI := Lib.hid (show Invol (matesOf mate) (4 * k) from by have := matesOf_invol HPB.out HLM.out; rwa [HNM.out] at this)
          have HP := Lib.hid (show Perm (ff (matesOf mate)) q from by rw [HNM.out]; exact HI.out.perm 3)
          have hq256 : q ≤ 256 := by have := HNM.out; omega
          have hge : 4 * (k : Int) ≤ (q : Int) := by have := HNM.out; omega
          clear hlt hq hall HE2
          have CL := Lib.hid (label_any B q cm k mate (matesOf mate) wr (H.out.hm.keep hbr) HM.out HNM.out hq256)
          go_wp2_with (first
            | (go_at_call 47; ((with_reducible refine CL.out.mono ?_); rintro e w2 ⟨vl, rfl, hol, hb2⟩; have hbr2 := below_step hbr hb2; have d0'' := (hbr2.cell (p := ⟨w.heap.size, 0, none⟩) dlt).trans d0; have d1'' := (hbr2.cell (p := ⟨w.heap.size, 1, none⟩) dlt).trans d1; have CF := Lib.hid (rfaces_any B q cm mate (matesOf mate) w2 (H.out.hm.keep hbr2) HM.out HP.out hq256)))
            | (go_at_call 48; ((with_reducible refine CF.out.mono ?_); rintro e w3 ⟨vf, rfl, hof, hb3⟩)))
          have hbw3 := below_step (below_step hb0 hbr2) hb3
          have hol3 := hol.keep hb3
          obtain ⟨Af, cf, rfl, hrf⟩ := hof.ro
          rw [heads_length] at hrf
          have FL := Lib.hid (fun c (hc : c < k) => labAt_eq (m := matesOf mate) (F := ufLab (matesOf mate) q) HNM.out (fun h hh => (HM.out h hh).2) (ufLab_isLab (matesOf mate) q k) c hc)
          have HE3 : Hid (∀ j, j < 0 → labAt (matesOf mate) q k j = j → cntF (labAt (matesOf mate) q k) (ff (matesOf mate)) q q j = cntV (labAt (matesOf mate) q k) k j + 2) := fun j hj => absurd hj (by omega)
          clear hol hof d0'' d1'' d0' d1' hb2 hb3 hbr2 hbr CL
          have FC := Lib.hid (fun c (hc : c < k) => lab_le (matesOf mate) q k c)
          have HLAB := Lib.hid (show ufLab (matesOf mate) q = ufLab (matesOf mate) q from rfl)
          generalize hF : labAt (matesOf mate) q k = F at *
          clear hF HLAB
          have hlenI : ((List.range k).map fun i => (F i : Int)).length = k := by simp
          have hgetI : ∀ c, c < k → ((List.range k).map fun i => (F i : Int)).getD c 0 = (F c : Int) := fun c hc => by simp [List.getD, hc]
          have HG := Lib.hid hgetI
          have HLI := Lib.hid hlenI
          have HOL := Lib.hid hol3
          have HRF := Lib.hid hrf
          rw [heads_length]
          have hnf : (heads (ff (matesOf mate)) q).length ≤ 256 := by rw [← heads_length]; exact Nat.le_trans (cycL_length _ _ _ _) hq256
          clear hlenI hgetI hol3 hrf
          go_loop [9, 10, 11, 12, 13] (fun i _ _ _ _ => ∃ c : Nat, c ≤ k ∧ i = .int .i64 c ∧ Hid (∀ j, j < c → F j = j → cntF F (ff (matesOf mate)) q q j = cntV F k j + 2)) (fun i _ _ _ _ => k - (intOf i).toNat)
          case atStart => exact ⟨0, by omega, rfl, HE3⟩
          case round =>
            obtain ⟨c, hc, rfl, hall⟩ := hrel
            have hc0 : (0 : Int) ≤ (c : Int) := Int.natCast_nonneg _
            by_cases hlt : c < k
            · obtain ⟨gl, cl, rfl⟩ := HOL.out.form_pos HLI.out (by omega)
              have hcell : ∀ b, b < k → w3.cell? ⟨gl, b, none⟩ = some (.int .i64 (F b : Nat)) := fun b hb => by
                rw [HOL.out.cell b (by rw [HLI.out]; exact hb), HG.out b hb]
              have HCE := Lib.hid hcell
              have hcc := hcell c hlt
              have hFle : F c ≤ c := FC.out c hlt
              clear hcell
              have hc1 : (c : Int) < (k : Int) := by omega
              by_cases hFc : F c = c
              · rw [hFc] at hcc
                have HFc := Lib.hid hFc
                clear hFc hFle
                go_wp2
                go_loop [10, 12] (fun v i => ∃ b : Nat, b ≤ k ∧ i = .int .i64 b ∧ v = .int .i64 (cntV F b c : Nat)) (fun _ i => k - (intOf i).toNat)
                case atStart => exact ⟨0, by omega, rfl, rfl⟩
                case round =>
                  obtain ⟨b, hb, rfl, rfl⟩ := hrel
                  have hb0' : (0 : Int) ≤ (b : Int) := Int.natCast_nonneg _
                  by_cases hbl : b < k
                  · have hcb := HCE.out b hbl
                    have hb1 : (b : Int) < (k : Int) := by omega
                    have hvle := cntV_le F b c
                    have hsucc := cntV_succ F b c
                    by_cases hFb : F b = c
                    · rw [hFb] at hcb
                      have HS := Lib.hid (show cntV F (b + 1) c = cntV F b c + 1 from by rw [hsucc, hFb]; simp)
                      clear hsucc hFb
                      generalize cntV F b c = v at *
                      have hv0 : (0 : Int) ≤ (v : Int) := Int.natCast_nonneg _
                      go_wp2
                      go_round
                      case rel => exact ⟨b + 1, by omega, by go_num, by rw [HS.out]; go_num⟩
                      case measure => simp [intOf]; omega
                    · have hne : ((F b : Int) == (c : Int)) = false := by simp only [beq_eq_false_iff_ne, ne_eq]; omega
                      have HS := Lib.hid (show cntV F (b + 1) c = cntV F b c from by rw [hsucc]; simp [hFb])
                      clear hsucc hFb
                      generalize cntV F b c = v at *
                      generalize F b = x at *
                      go_wp2
                      go_round
                      case rel => exact ⟨b + 1, by omega, by go_num, by rw [HS.out]⟩
                      case measure => simp [intOf]; omega
                  · obtain rfl : k = b := by omega
                    go_wp2
                    go_loop [11, 13] (fun f i => ∃ e : Nat, e ≤ (heads (ff (matesOf mate)) q).length ∧ i = .int .i64 e ∧ f = .int .i64 (((heads (ff (matesOf mate)) q).take e).countP (fun h => F (h / 4) == c) : Nat)) (fun _ i => (heads (ff (matesOf mate)) q).length - (intOf i).toNat)
                    case atStart => exact ⟨0, by omega, rfl, rfl⟩
                    case round =>
                      obtain ⟨e, he, rfl, rfl⟩ := hrel
                      have he0 : (0 : Int) ≤ (e : Int) := Int.natCast_nonneg _
                      by_cases hel : e < (heads (ff (matesOf mate)) q).length
                      · have he1 : (e : Int) < ((heads (ff (matesOf mate)) q).length : Int) := by omega
                        obtain ⟨bf, of, rfl, hbf⟩ := HRF.out.at_ (by omega)
                        obtain ⟨A', n', c', hsl, hri⟩ := HRF.out.el e hel
                        have hhd := heads_lt (ff (matesOf mate)) q e hel
                        rw [heads_el _ _ _ hel] at hri
                        have hsucc := countP_take_succ (fun h => F (h / 4) == c) (heads (ff (matesOf mate)) q) e hel
                        generalize (heads (ff (matesOf mate)) q).getD e 0 = hd at *
                        have hpos := per_pos (ff (matesOf mate)) q hd
                        have hn' : n' = per (ff (matesOf mate)) q hd := by rw [← hri.1, itl_length]
                        obtain ⟨bb, ob, rfl, _, hcb⟩ := hri.2 (by omega)
                        have hc0' := hcb 0 (by omega)
                        rw [itl_getD _ _ _ _ hpos] at hc0'
                        have hit0 : it (ff (matesOf mate)) 0 hd = hd := rfl
                        rw [hit0] at hc0'
                        simp only [Nat.add_zero] at hc0'
                        have hn1 : (0 : Int) < (n' : Int) := by omega
                        have hn1' : 0 < n' := by omega
                        have hd4 : hd / 4 < k := by have := HNM.out; omega
                        have hcf := HCE.out (hd / 4) hd4
                        have hhd0 : (0 : Int) ≤ (hd : Int) := Int.natCast_nonneg _
                        have hd41 : (hd : Int) / 4 < (k : Int) := by omega
                        have hw1 : IntKind.i64.wrap ((hd : Int) / 4) = (hd : Int) / 4 := IntWalk.i64_in _ (by omega)
                        have hfle : ((heads (ff (matesOf mate)) q).take e).countP (fun h => F (h / 4) == c) ≤ e := Nat.le_trans List.countP_le_length (by simp; omega)
                        clear hri hcb hn' hit0 hpos
                        by_cases hFb : F (hd / 4) = c
                        · rw [hFb] at hcf
                          have HS := Lib.hid (show ((heads (ff (matesOf mate)) q).take (e + 1)).countP (fun h => F (h / 4) == c) = ((heads (ff (matesOf mate)) q).take e).countP (fun h => F (h / 4) == c) + 1 from by rw [hsucc, hFb]; simp)
                          clear hsucc hFb
                          generalize ((heads (ff (matesOf mate)) q).take e).countP (fun h => F (h / 4) == c) = f at *
                          have hf0 : (0 : Int) ≤ (f : Int) := Int.natCast_nonneg _
                          go_wp2
                          go_round
                          case rel => exact ⟨e + 1, by omega, by go_num, by rw [HS.out]; go_num⟩
                          case measure => simp [intOf]; omega
                        · have hne : ((F (hd / 4) : Int) == (c : Int)) = false := by simp only [beq_eq_false_iff_ne, ne_eq]; omega
                          have HS := Lib.hid (show ((heads (ff (matesOf mate)) q).take (e + 1)).countP (fun h => F (h / 4) == c) = ((heads (ff (matesOf mate)) q).take e).countP (fun h => F (h / 4) == c) from by rw [hsucc]; simp [hFb])
                          clear hsucc hFb
                          generalize ((heads (ff (matesOf mate)) q).take e).countP (fun h => F (h / 4) == c) = f at *
                          generalize F (hd / 4) = x at *
                          go_wp2
                          go_round
                          case rel => exact ⟨e + 1, by omega, by go_num, by rw [HS.out]⟩
                          case measure => simp [intOf]; omega
                      · have hee : e = (heads (ff (matesOf mate)) q).length := by omega
                        subst hee
                        have hcnt : ((heads (ff (matesOf mate)) q).take (heads (ff (matesOf mate)) q).length).countP (fun h => F (h / 4) == c) = cntF F (ff (matesOf mate)) q q c := by
                          rw [List.take_length]; exact cntF_heads F (ff (matesOf mate)) q c
                        have hv1 := cntV_le F k c
                        have hv2 := cntF_le F (ff (matesOf mate)) q q c
                        rw [hcnt]
                        have HCN := Lib.hid (show Hid (F c = c) from HFc)
                        by_cases heq : cntF F (ff (matesOf mate)) q q c = cntV F k c + 2
                        · have hall' : Hid (∀ j, j < c + 1 → F j = j → cntF F (ff (matesOf mate)) q q j = cntV F k j + 2) := fun j hj e => by
                            by_cases e' : j = c
                            · subst e'; exact heq
                            · exact hall.out j (by omega) e
                          rw [heq]
                          clear heq hcnt hel he hall hv2
                          generalize cntV F k c = v at *
                          have hv0 : (0 : Int) ≤ (v : Int) := Int.natCast_nonneg _
                          go_wp2
                          go_round
                          case rel => exact ⟨c + 1, by omega, by go_num, hall'⟩
                          case measure => simp [intOf]; omega
                        · have hsf : sphM mate signs.length = false := by
                            cases hs : sphM mate signs.length with
                            | false => rfl
                            | true =>
                              unfold sphM at hs
                              rw [HLM.out, HLS.out] at hs
                              have hs2 : sphB F (ff (matesOf mate)) q k = true := by
                                rw [← hs, HNM.out]
                                exact sphB_congr fun x hx => by have := FL.out x hx; rw [HNM.out] at this; exact this
                              have := (sphB_iff _ _ _ _).1 hs2 c hlt
                              rw [HFc.out] at this
                              exact absurd this heq
                          obtain rfl : r = false := HR.out.trans (validB_sph hsf)
                          have hbne : ((cntF F (ff (matesOf mate)) q q c : Int) != (cntV F k c : Int) + 2) = true := by simp only [bne_iff_ne, ne_eq]; omega
                          clear heq hcnt hel he hall HR hsf
                          generalize cntF F (ff (matesOf mate)) q q c = f at *
                          generalize cntV F k c = v at *
                          have hv0 : (0 : Int) ≤ (v : Int) := Int.natCast_nonneg _
                          go_wp2
                          go_ret
                          exact ⟨rfl, hbw3⟩
              · have hne : ((F c : Int) != (c : Int)) = true := by simp only [bne_iff_ne, ne_eq]; omega
                have hall' : Hid (∀ j, j < c + 1 → F j = j → cntF F (ff (matesOf mate)) q q j = cntV F k j + 2) := fun j hj e => by
                  by_cases e' : j = c
                  · subst e'; exact absurd e hFc
                  · exact hall.out j (by omega) e
                clear hFc hFle
                generalize F c = x at *
                go_wp2
                go_round
                case rel => exact ⟨c + 1, by omega, by go_num, hall'⟩
                case measure => simp [intOf]; omega
            · obtain rfl : c = k := by omega
              have hst : sphM mate signs.length = true := by
                unfold sphM
                rw [HLM.out, HLS.out]
                have hs2 : sphB F (ff (matesOf mate)) q c = true := (sphB_iff _ _ _ _).2 fun x hx => by
                  have hx1 := FL.out x hx
                  have hlab := ufLab_isLab (matesOf mate) q c
                  obtain ⟨hl1, hl2⟩ := hlab.1 x hx
                  have hFx : F x < c := by rw [hx1]; omega
                  have hid : F (F x) = F x := by rw [FL.out (F x) hFx, hx1]; exact (hlab.conn hl2).symm
                  exact hall.out (F x) hFx hid
                rw [← hs2, HNM.out]
                exact (sphB_congr fun x hx => by have := FL.out x hx; rw [HNM.out] at this; exact this.symm)
              have hvt : validB signs mate lp = true := by
                unfold validB
                rw [hst, HSG.out, HPB.out, HLS.out, HLM.out]
                simp [limB, h1, h3, h4, HNM.out]
              obtain rfl : r = true := HR.out.trans hvt
              clear hlt hc hall HR hst hvt
              go_wp2
              go_ret
              exact ⟨rfl, hbw3⟩

end Go.Proofs.Ytdamfoobnbjojaa

/- The reference's Valid, for every diagram; Out. -/
namespace Go.Proofs.Ytdamfoobnbjojaa
open Go.RowKit

set_option maxHeartbeats 1600000 in
set_option maxRecDepth 100000 in
theorem rvalid_lim (A B : Option Addr) (ns cs nm cm : Nat) (lp : Int) (w : World) (hns : ns ≤ 100000000000000) (hnm : nm ≤ 100000000000000) (hl : limB ns nm lp = false) :
    Calls Try.prog 16 #[dval A ns cs B nm cm lp] w fun e w' => e = .returned (.bool false) ∧ Below w.heap.size w w' := by
  by_cases h1 : ns ≤ 64
  · by_cases h2 : nm = 4 * ns
    · subst h2
      by_cases h3 : 0 ≤ lp
      · have h4' : 64 < lp := by
          by_cases h4 : lp ≤ 64
          · simp [limB, *] at hl
          · omega
        clear hl
        go_enter Try.func16, Try.ntmps16
        go_wp2
        go_ret
        exact ⟨rfl, below_alloc _ _⟩
      · have h4' : lp < 0 := by omega
        clear hl h3
        go_enter Try.func16, Try.ntmps16
        go_wp2
        go_ret
        exact ⟨rfl, below_alloc _ _⟩
    · have h4 : ((nm : Int) != 4 * (ns : Int)) = true := by simp only [bne_iff_ne, ne_eq]; omega
      clear hl h2
      go_enter Try.func16, Try.ntmps16
      go_wp2
      go_ret
      exact ⟨rfl, below_alloc _ _⟩
  · have h4' : 64 < ns := by omega
    clear hl h1
    go_enter Try.func16, Try.ntmps16
    go_wp2
    go_ret
    exact ⟨rfl, below_alloc _ _⟩

theorem DV.rvalid {w : World} {A B : Option Addr} {ns nm : Nat} {signs mate : List Int} (h : DV w A ns B nm signs mate) (cs cm : Nat) (lp : Int) (r : Bool) (hr : validB signs mate lp = r) :
    Calls Try.prog 16 #[dval A ns cs B nm cm lp] w fun e w' => e = .returned (.bool r) ∧ Below w.heap.size w w' := by
  cases hl : limB ns nm lp with
  | true =>
    obtain ⟨l1, l2, l3, l4⟩ := limB_out hl
    exact rvalid_main r A B ns cs nm cm lp signs mate w h l1 l2 l3 l4 hr.symm
  | false =>
    have : r = false := by
      rw [← hr]; exact validB_lim (by rw [h.hs.1, h.hm.1]; exact hl)
    subst this
    exact rvalid_lim A B ns cs nm cm lp w h.hns h.hnm hl


end Go.Proofs.Ytdamfoobnbjojaa
