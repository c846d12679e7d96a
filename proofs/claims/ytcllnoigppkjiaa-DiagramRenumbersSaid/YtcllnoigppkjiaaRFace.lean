/- Walks of the reference: Face, Faces. -/
import Derived.Test.YtcllnoigppkjiaaInts
import Derived.Test.YtcllnoigppkjiaaLabPlain
namespace Go.Proofs.Ytcllnoigppkjiaa
open Go.RowKit

theorem rturn_face (x : Nat) (hx : x ≤ 1000000) (w : World) : Calls Try.prog 20 #[.int .i64 (x : Int), .int .i64 (-1)] w fun e w' => e = .returned (.int .i64 (trn x 3 : Nat)) ∧ w = w' := by
  rw [← turnI_face]; exact rturn_any _ _ _ (by omega) (by omega) (by omega) (by omega)
theorem rturn_opp (x : Nat) (hx : x ≤ 1000000) (w : World) : Calls Try.prog 20 #[.int .i64 (x : Int), .int .i64 2] w fun e w' => e = .returned (.int .i64 (trn x 2 : Nat)) ∧ w = w' := by
  rw [← turnI_opp]; exact rturn_any _ _ _ (by omega) (by omega) (by omega) (by omega)

set_option maxHeartbeats 1600000 in
set_option maxRecDepth 100000 in
theorem rface_any (B : Option Addr) (nm cm h : Nat) (mate : List Int) (m : Nat → Nat) (w : World) (hm : RI w B nm mate) (hmm : Mates mate nm m) (hp : Perm (ff m) nm) (hh : h < nm) (hN : nm ≤ 256) (x : Int) (hx : x = (h : Nat)) :
    Calls Try.prog 30 #[.slice B nm cm, .int .i64 x] w (CycPost w (itl (ff m) h (per (ff m) nm h))) := by
  subst hx
  have h1 := OI.one w w.heap.size h (Nat.le_refl _)
  have hb1 := below_alloc w (.cells #[.int .i64 (h : Int)] 3)
  obtain ⟨b, off, rfl, hbb, hc⟩ := hm.2 (by omega)
  have HM := Lib.hid hmm
  have HC := Lib.hid hc
  obtain ⟨hmh, hml⟩ := hmm h hh
  have hc0 := (hb1.cell (p := ⟨b, off + h, none⟩) hbb).trans (hc h hh)
  rw [hmh] at hc0
  have HP := Lib.hid hp
  have CT := Lib.hid (rturn_face (m h) (by omega) (w.alloc (.cells #[.int .i64 (h : Int)] 3)))
  have hff : ff m h = trn (m h) 3 := rfl
  rw [← hff] at CT
  have hh0 : (0 : Int) ≤ (h : Int) := Int.natCast_nonneg _
  have hh1 : (h : Int) < (nm : Int) := by omega
  clear hp hmm hc hm hmh hff
  go_enter Try.func30, Try.ntmps30
  go_wp2_with (go_at_call 20; ((with_reducible refine CT.out.mono ?_); rintro e w1 ⟨rfl, rfl⟩))
  go_loopg [5, 6] (per (ff m) nm h - 1) (fun n v g wr => ∃ i : Nat, 0 < i ∧ n + i = per (ff m) nm h ∧ g = .int .i64 (it (ff m) i h : Nat) ∧ Below w.heap.size w wr ∧ OI wr w.heap.size v (itl (ff m) h i))
  case atStart => exact ⟨1, by omega, by have := per_pos (ff m) nm h; omega, rfl, hb1, h1⟩
  case round =>
    obtain ⟨i, hi0, hi, rfl, hbr, hown⟩ := hrel
    have hgl := HP.out.it_lt hh i
    have hpn := (HP.out.per_spec hh).2.1
    have hlen := itl_length (ff m) h i
    obtain ⟨gv, cv, rfl⟩ := hown.form_pos hlen hi0
    by_cases hil : i < per (ff m) nm h
    · have hne : ((it (ff m) i h : Int) != (h : Int)) = true := by
        have := (HP.out.per_spec hh).2.2 i hi0 hil
        simp only [bne_iff_ne, ne_eq]; omega
      have HI := Lib.hid hi
      have hsucc := itl_succ (ff m) h i
      have hil' : (itl (ff m) h i).length ≤ 1000000000 := by omega
      have HIT := Lib.hid (show it (ff m) (i + 1) h = trn (m (it (ff m) i h)) 3 from rfl)
      have HSU := Lib.hid hsucc
      have hle : (i : Int) ≤ (nm : Int) := by omega
      obtain ⟨hmx, hmxl⟩ := HM.out _ hgl
      have HCX := Lib.hid (show w.cell? ⟨b, off + it (ff m) i h, none⟩ = some (.int .i64 (m (it (ff m) i h) : Nat)) from by rw [HC.out _ hgl, hmx])
      clear hi hlen hsucc hmx
      generalize itl (ff m) h i = xs at *
      generalize it (ff m) i h = x at *
      generalize hmxx : m x = y at *
      clear hmxx
      have hx0 : (0 : Int) ≤ (x : Int) := Int.natCast_nonneg _
      have hx1 : (x : Int) < (nm : Int) := by omega
      go_wp2_with (first
        | (at_builtin
           refine wpList_append_int rfl (.tmp 29) (.tmp 31) rfl w.heap.size _ xs rfl (hown.alloc _) wr.heap.size (x : Int) rfl (by rw [World.cell?_alloc_at _ _ _ _ rfl]; rfl) hil' (Nat.le_trans hbr.size (by simp)) ?_
           intro v2 w2 hown2 hg2
           have hb2 : Below w.heap.size w w2 := (below_step hbr (below_alloc wr _)).grown hg2 (Nat.le_trans hbr.size (by simp)) (fun k hk => (World.ownsRow.lt hown k hk).1)
           have hcx := (hb2.cell (p := ⟨b, off + x, none⟩) hbb).trans HCX.out
           have C1 := Lib.hid (rturn_face y (by omega) w2))
        | (go_at_call 20; ((with_reducible refine C1.out.mono ?_); rintro e w3 ⟨rfl, rfl⟩)))
      go_roundg (gk - 1)
      case measure => have := HI.out; omega
      case rel => exact ⟨i + 1, by omega, by have := HI.out; omega, by rw [HIT.out], hb2, by rw [HSU.out]; exact hown2⟩
    · have hip : i = per (ff m) nm h := by omega
      have hret : it (ff m) i h = h := by rw [hip]; exact (HP.out.per_spec hh).1
      rw [hret]
      rw [hip] at hown
      have HF := Lib.hid (show CycPost w (itl (ff m) h (per (ff m) nm h)) (.returned (.slice (some ⟨gv, 0, none⟩) i cv)) wr from ⟨_, rfl, by rw [hip]; exact hown, hbr⟩)
      clear hret hip hil hi hlen hown
      go_wp2
      go_ret
      exact HF.out

theorem sel_true (f : Nat → Nat) (N h : Nat) : sel f N (fun _ => true) h = fst f N h := by simp [sel, fst]
theorem all_itl (f : Nat → Nat) (N h : Nat) : fst f N h = (List.range (per f N h)).all (fun i => decide (h ≤ it f i h)) := by
  unfold fst cyc; rw [List.all_map]; rfl
theorem all_range_succ (p : Nat → Bool) (k : Nat) : (List.range (k + 1)).all p = ((List.range k).all p && p k) := by
  rw [List.range_succ, List.all_append]; simp

set_option maxHeartbeats 1600000 in
set_option maxRecDepth 100000 in
theorem rfaces_any (B : Option Addr) (nm cm : Nat) (mate : List Int) (m : Nat → Nat) (w : World) (hm : RI w B nm mate) (hmm : Mates mate nm m) (hp : Perm (ff m) nm) (hN : nm ≤ 256) :
    Calls Try.prog 32 #[.slice B nm cm] w (CycsPost w (cycL (ff m) nm (fun _ => true) nm)) := by
  have HP := Lib.hid hp
  have HMM := Lib.hid hmm
  clear hp hmm
  go_enter Try.func32, Try.ntmps32
  go_wp2
  go_loopw [3, 4, 5, 6, 7] (fun v i _ _ _ wr => ∃ k : Nat, k ≤ nm ∧ i = .int .i64 k ∧ Below w.heap.size w wr ∧ OO wr w.heap.size v (cycL (ff m) nm (fun _ => true) k)) (fun _ i _ _ _ _ => nm - (intOf i).toNat)
  case atStart => exact ⟨0, by omega, rfl, Below.refl _ _, OO.nil _ _⟩
  case round =>
    obtain ⟨k, hk, rfl, hbr, hown⟩ := hrel
    by_cases hlt : k < nm
    · have CF := Lib.hid (rface_any B nm cm k mate m wr (hm.keep hbr) HMM.out HP.out hlt hN _ rfl)
      have hpn := (HP.out.per_spec hlt).2.1
      have hk0 : (0 : Int) ≤ (k : Int) := Int.natCast_nonneg _
      have hk1 : (k : Int) < (nm : Int) := by omega
      go_wp2_with (go_at_call 30; ((with_reducible refine CF.out.mono ?_); rintro e w2 ⟨vm, rfl, hom, hb2⟩; obtain ⟨gm, cpm, rfl⟩ := hom.form_pos (itl_length (ff m) k (per (ff m) nm k)) (per_pos (ff m) nm k)))
      have hbw2 := below_step hbr hb2
      have hszr := hbr.size
      have hown2 := hown.keep hb2
      clear hown hb2 hbr CF
      go_loop [6, 7] (fun l i => ∃ j : Nat, j ≤ per (ff m) nm k ∧ i = .int .i64 j ∧ l = .bool ((List.range j).all (fun q => decide (k ≤ it (ff m) q k)))) (fun _ i => per (ff m) nm k - (intOf i).toNat)
      case atStart => exact ⟨0, by omega, rfl, rfl⟩
      case round =>
        obtain ⟨j, hj, rfl, rfl⟩ := hrel
        by_cases hjl : j < per (ff m) nm k
        · have hcm : w2.cell? ⟨gm, j, none⟩ = some (.int .i64 (it (ff m) j k : Nat)) := by
            have := hom.cell j (by rw [itl_length]; exact hjl)
            rwa [itl_getD _ _ _ _ hjl] at this
          have HAS := Lib.hid (all_range_succ (fun q => decide (k ≤ it (ff m) q k)) j)
          have hit := HP.out.it_lt hlt j
          generalize it (ff m) j k = x at *
          have hx0 : (0 : Int) ≤ (x : Int) := Int.natCast_nonneg _
          have hj0 : (0 : Int) ≤ (j : Int) := Int.natCast_nonneg _
          have hj1 : (j : Int) < (per (ff m) nm k : Int) := by omega
          generalize hall : (List.range j).all (fun q => decide (k ≤ it (ff m) q k)) = a at *
          clear hall
          cases a with
          | false =>
            go_wp2
            go_round
            case rel => exact ⟨j + 1, by omega, by go_num, by rw [HAS.out]; simp⟩
            case measure => simp [intOf]; omega
          | true =>
            by_cases hkx : k ≤ x
            · have hd : decide (k ≤ x) = true := by simp [hkx]
              have hd' : decide ((k : Int) ≤ (x : Int)) = true := by simp [hkx]
              go_wp2
              go_round
              case rel => exact ⟨j + 1, by omega, by go_num, by rw [HAS.out]; simp [hkx]⟩
              case measure => simp [intOf]; omega
            · have hd : decide (k ≤ x) = false := by simp [hkx]
              have hd' : decide ((k : Int) ≤ (x : Int)) = false := by simp; omega
              go_wp2
              go_round
              case rel => exact ⟨j + 1, by omega, by go_num, by rw [HAS.out]; simp [hkx]⟩
              case measure => simp [intOf]; omega
        · obtain rfl : j = per (ff m) nm k := by omega
          have hcy := cycL_succ (ff m) nm (fun _ => true) k
          rw [sel_true, all_itl] at hcy
          have hlen := cycL_length (ff m) nm (fun _ => true) k
          have hsz := hbw2.size
          have hom' := hom.mono (B' := w.heap.size) hszr
          cases hall : (List.range (per (ff m) nm k)).all (fun q => decide (k ≤ it (ff m) q k)) with
          | false =>
            rw [hall] at hcy
            have hcy' : cycL (ff m) nm (fun _ => true) (k + 1) = cycL (ff m) nm (fun _ => true) k := by rw [hcy]; simp
            have HO := Lib.hid (show OO w2 w.heap.size u3 (cycL (ff m) nm (fun _ => true) (k + 1)) from by rw [hcy']; exact hown2)
            clear hcy hcy' hown2 hall
            go_wp2
            go_roundw
            case rel => exact ⟨k + 1, by omega, by go_num, hbw2, HO.out⟩
            case measure => simp [intOf]; omega
          | true =>
            rw [hall] at hcy
            have HCY := Lib.hid (show cycL (ff m) nm (fun _ => true) (k + 1) = cycL (ff m) nm (fun _ => true) k ++ [itl (ff m) k (per (ff m) nm k)] from by rw [hcy]; simp)
            clear hcy hall
            go_wp2_with (at_builtin
                         refine wpList_append_row rfl (.tmp 33) (.tmp 35) rfl w.heap.size u3 (cycL (ff m) nm (fun _ => true) k) rfl (hown2.keep (below_alloc _ _)) w2.heap.size (.slice (some ⟨gm, 0, none⟩) (per (ff m) nm k) cpm) (itl (ff m) k (per (ff m) nm k)) rfl (by rw [World.cell?_alloc_at _ _ _ _ rfl]; rfl) (hom'.alloc _) (by omega) (Nat.le_trans hsz (by simp)) ?_
                         intro v2 w3 ho2 hg2)
            go_roundw
            case rel => exact ⟨k + 1, by omega, by go_num, (below_step hbw2 (below_alloc w2 _)).grown hg2 (Nat.le_trans hsz (by simp)) (fun q hq => (hown2.lt q hq).1), by rw [HCY.out]; exact ho2⟩
            case measure => simp [intOf]; omega
    · obtain rfl : k = nm := by omega
      clear hlt hk hm
      go_wp2
      go_ret
      exact ⟨_, rfl, hown, hbr⟩

end Go.Proofs.Ytcllnoigppkjiaa
