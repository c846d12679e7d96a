/- Walks of the reference: Strand, Strands, Graph, Components. -/
import Derived.Test.YtnehhicfepkdfaaGraph
namespace Go.Proofs.Ytnehhicfepkdfaa
open Go.RowKit

set_option maxHeartbeats 1600000 in
set_option maxRecDepth 100000 in
theorem rstrand_any (A B : Option Addr) (ns cs nm cm : Nat) (lp : Int) (h : Nat) (mate : List Int) (m : Nat → Nat) (w : World) (hm : RI w B nm mate) (hmm : Mates mate nm m) (hp : Perm (fs m) nm) (hh : h < nm) (hN : nm ≤ 256) (x : Int) (hx : x = (h : Nat)) :
    Calls Try.prog 61 #[dval A ns cs B nm cm lp, .int .i64 x] w (CycPost w (itl (fs m) h (per (fs m) nm h))) := by
  subst hx
  have hbx := below_alloc w (dbox A ns cs B nm cm lp)
  have h1 := (OI.one (w.alloc (dbox A ns cs B nm cm lp)) (w.alloc (dbox A ns cs B nm cm lp)).heap.size h (Nat.le_refl _)).mono (Nat.le_refl (w.alloc (dbox A ns cs B nm cm lp)).heap.size)
  have hb1 := below_step hbx (below_alloc (w.alloc (dbox A ns cs B nm cm lp)) (.cells #[.int .i64 (h : Int)] 3))
  have hdb := (DB.new w A ns cs B nm cm lp).keep (below_alloc _ (.cells #[.int .i64 (h : Int)] 3))
  have hszx : (w.alloc (dbox A ns cs B nm cm lp)).heap.size = w.heap.size + 1 := by simp
  rw [hszx] at h1
  clear hszx
  obtain ⟨b, off, rfl, hbb, hc⟩ := hm.2 (by omega)
  have HM := Lib.hid hmm
  have HC := Lib.hid hc
  obtain ⟨hmh, hml⟩ := hmm h hh
  have hc0 := (hb1.cell (p := ⟨b, off + h, none⟩) hbb).trans (hc h hh)
  rw [hmh] at hc0
  have HP := Lib.hid hp
  have CT := Lib.hid (rturn_opp (m h) (by omega) ((w.alloc (dbox A ns cs (some ⟨b, off, none⟩) nm cm lp)).alloc (.cells #[.int .i64 (h : Int)] 3)))
  obtain ⟨x0, x1, x2, xlt⟩ := hdb
  have hxlt : w.heap.size < w.heap.size + 1 := by omega
  have hfs : fs m h = trn (m h) 2 := rfl
  rw [← hfs] at CT
  have hh0 : (0 : Int) ≤ (h : Int) := Int.natCast_nonneg _
  have hh1 : (h : Int) < (nm : Int) := by omega
  clear hp hmm hc hm hmh hfs hbx
  go_enter Try.func61, Try.ntmps61
  go_wp2_with (go_at_call 20; ((with_reducible refine CT.out.mono ?_); rintro e w1 ⟨rfl, rfl⟩))
  generalize hwA : (w.alloc (dbox A ns cs (some ⟨b, off, none⟩) nm cm lp)).alloc (.cells #[.int .i64 (h : Int)] 3) = wA at h1 hb1 x0 x1 x2 xlt hc0 ⊢
  clear hwA
  go_loopg [5, 6] (per (fs m) nm h - 1) (fun n v g wr => ∃ i : Nat, 0 < i ∧ n + i = per (fs m) nm h ∧ g = .int .i64 (it (fs m) i h : Nat) ∧ Below (w.heap.size + 1) wA wr ∧ OI wr (w.heap.size + 1) v (itl (fs m) h i))
  case atStart => exact ⟨1, by omega, by have := per_pos (fs m) nm h; omega, rfl, Below.refl _ _, h1⟩
  case round =>
    obtain ⟨i, hi0, hi, rfl, hbr, hown⟩ := hrel
    have y1 := (hbr.cell (p := ⟨w.heap.size, 1, none⟩) hxlt).trans x1
    have hszr := hbr.size
    have hgl := HP.out.it_lt hh i
    have hpn := (HP.out.per_spec hh).2.1
    have hlen := itl_length (fs m) h i
    obtain ⟨gv, cv, rfl⟩ := hown.form_pos hlen hi0
    by_cases hil : i < per (fs m) nm h
    · have hne : ((it (fs m) i h : Int) != (h : Int)) = true := by
        have := (HP.out.per_spec hh).2.2 i hi0 hil
        simp only [bne_iff_ne, ne_eq]; omega
      have HI := Lib.hid hi
      have hsucc := itl_succ (fs m) h i
      have hil' : (itl (fs m) h i).length ≤ 1000000000 := by omega
      have HIT := Lib.hid (show it (fs m) (i + 1) h = trn (m (it (fs m) i h)) 2 from rfl)
      have HSU := Lib.hid hsucc
      have hle : (i : Int) ≤ (nm : Int) := by omega
      obtain ⟨hmx, hmxl⟩ := HM.out _ hgl
      have HCX := Lib.hid (show wA.cell? ⟨b, off + it (fs m) i h, none⟩ = some (.int .i64 (m (it (fs m) i h) : Nat)) from by rw [← hmx, ← HC.out _ hgl]; exact hb1.cell (p := ⟨b, off + it (fs m) i h, none⟩) hbb)
      clear hi hlen hsucc hmx
      generalize itl (fs m) h i = xs at *
      generalize it (fs m) i h = x at *
      generalize hmxx : m x = y at *
      clear hmxx
      have hx0 : (0 : Int) ≤ (x : Int) := Int.natCast_nonneg _
      have hx1 : (x : Int) < (nm : Int) := by omega
      go_wp2_with (first
        | (at_builtin
           refine wpList_append_int rfl (.tmp 32) (.tmp 34) rfl (w.heap.size + 1) _ xs rfl (hown.alloc _) wr.heap.size (x : Int) rfl (by rw [World.cell?_alloc_at _ _ _ _ rfl]; rfl) hil' (by simp; omega) ?_
           intro v2 w2 hown2 hg2
           have hb2 : Below (w.heap.size + 1) wA w2 := (hbr.alloc (by omega) _).grown hg2 (by simp; omega) (fun k hk => (World.ownsRow.lt hown k hk).1)
           have y2 := (hb2.cell (p := ⟨w.heap.size, 1, none⟩) hxlt).trans x1
           have hcx := (hb2.cell (p := ⟨b, off + x, none⟩) (by show b < w.heap.size + 1; omega)).trans HCX.out
           have C1 := Lib.hid (rturn_opp y (by omega) w2))
        | (go_at_call 20; ((with_reducible refine C1.out.mono ?_); rintro e w3 ⟨rfl, rfl⟩)))
      go_roundg (gk - 1)
      case measure => have := HI.out; omega
      case rel => exact ⟨i + 1, by omega, by have := HI.out; omega, by rw [HIT.out], hb2, by rw [HSU.out]; exact hown2⟩
    · have hip : i = per (fs m) nm h := by omega
      have hret : it (fs m) i h = h := by rw [hip]; exact (HP.out.per_spec hh).1
      rw [hret]
      rw [hip] at hown
      have HF := Lib.hid (show CycPost w (itl (fs m) h (per (fs m) nm h)) (.returned (.slice (some ⟨gv, 0, none⟩) i cv)) wr from ⟨_, rfl, by rw [hip]; exact hown.mono (Nat.le_succ _), hb1.trans (hbr.mono (Nat.le_succ _))⟩)
      clear hret hip hil hi hlen hown
      go_wp2
      go_ret
      exact HF.out

set_option maxHeartbeats 1600000 in
set_option maxRecDepth 100000 in
theorem rstrands_any (A B : Option Addr) (ns cs nm cm : Nat) (lp : Int) (signs mate : List Int) (m : Nat → Nat) (w : World) (hs : RI w A ns signs) (hnm : nm = 4 * ns) (hm : RI w B nm mate) (hmm : Mates mate nm m) (hp : Perm (fs m) nm) (hN : nm ≤ 256) (hout : ∀ h, h < nm → outB signs h = true → outB signs (fs m h) = true) :
    Calls Try.prog 34 #[dval A ns cs B nm cm lp] w (CycsPost w (cycL (fs m) nm (outB signs) nm)) := by
  have HP := Lib.hid hp
  have HMM := Lib.hid hmm
  have HNM := Lib.hid hnm
  have hbx := below_alloc w (dbox A ns cs B nm cm lp)
  obtain ⟨x0, x1, x2, xlt⟩ := DB.new w A ns cs B nm cm lp
  have hszA : (w.alloc (dbox A ns cs B nm cm lp)).heap.size = w.heap.size + 1 := by simp
  have hsel : ∀ k, k < nm → outB signs k = true → sel (fs m) nm (outB signs) k = (List.range (per (fs m) nm k)).all (fun q => decide (k ≤ it (fs m) q k)) := fun k hk ho => by
    have hito : ∀ i, outB signs (it (fs m) i k) = true := fun i => by
      induction i with
      | zero => exact ho
      | succ i ih => exact hout _ (hp.it_lt hk i) ih
    unfold sel cyc
    rw [ho, Bool.true_and, List.all_map]
    congr 1
    funext i
    simp [hito i]
  have hsel0 : ∀ k, outB signs k = false → sel (fs m) nm (outB signs) k = false := fun k h => by simp [sel, h]
  have HSEL := Lib.hid hsel
  have HSEL0 := Lib.hid hsel0
  clear hp hmm hnm hsel hsel0 hout
  go_enter Try.func34, Try.ntmps34
  go_wp2
  generalize hwA : w.alloc (dbox A ns cs B nm cm lp) = wA at hbx x0 x1 x2 xlt hszA ⊢
  clear hwA
  have hxlt : w.heap.size < w.heap.size + 1 := by omega
  go_loopw [3, 4, 5, 6, 7] (fun v i _ _ _ wr => ∃ k : Nat, k ≤ nm ∧ i = .int .i64 k ∧ Below (w.heap.size + 1) wA wr ∧ OO wr (w.heap.size + 1) v (cycL (fs m) nm (outB signs) k)) (fun _ i _ _ _ _ => nm - (intOf i).toNat)
  case atStart => exact ⟨0, by omega, rfl, Below.refl _ _, OO.nil _ _⟩
  case round =>
    obtain ⟨k, hk, rfl, hbr, hown⟩ := hrel
    have hszr := hbr.size
    have hbW : Below w.heap.size w wr := hbx.trans (hbr.mono (Nat.le_succ _))
    have y0 := (hbr.cell (p := ⟨w.heap.size, 0, none⟩) hxlt).trans x0
    have y1 := (hbr.cell (p := ⟨w.heap.size, 1, none⟩) hxlt).trans x1
    have y2 := (hbr.cell (p := ⟨w.heap.size, 2, none⟩) hxlt).trans x2
    by_cases hlt : k < nm
    · have CF := Lib.hid (rstrand_any A B ns cs nm cm lp k mate m wr (hm.keep hbW) HMM.out HP.out hlt hN _ rfl)
      have CO := Lib.hid (rout_any A ns cs signs k wr (hs.keep hbW) (by have := HNM.out; omega) (by have := HNM.out; omega))
      have hpn := (HP.out.per_spec hlt).2.1
      have hk0 : (0 : Int) ≤ (k : Int) := Int.natCast_nonneg _
      have hk1 : (k : Int) < (nm : Int) := by omega
      cases ho : outB signs k with
      | false =>
       rw [ho] at CO
       have hcy := cycL_succ (fs m) nm (outB signs) k
       rw [HSEL0.out k ho] at hcy
       have HO := Lib.hid (show OO wr (w.heap.size + 1) u3 (cycL (fs m) nm (outB signs) (k + 1)) from by rw [hcy]; simpa using hown)
       clear hcy hown ho
       go_wp2_with (go_at_call 23; ((with_reducible refine CO.out.mono ?_); rintro e w' ⟨rfl, rfl⟩))
       go_roundw
       case rel => exact ⟨k + 1, by omega, by go_num, hbr, HO.out⟩
       case measure => simp [intOf]; omega
      | true =>
        rw [ho] at CO
        go_wp2_with (first
         | (go_at_call 23; ((with_reducible refine CO.out.mono ?_); rintro e w' ⟨rfl, rfl⟩))
         | (go_at_call 61; ((with_reducible refine CF.out.mono ?_); rintro e w2 ⟨vm, rfl, hom, hb2⟩; obtain ⟨gm, cpm, rfl⟩ := hom.form_pos (itl_length (fs m) k (per (fs m) nm k)) (per_pos (fs m) nm k))))
        have hbw2 : Below (w.heap.size + 1) wA w2 := hbr.trans (hb2.mono (by omega))
        have hown2 := hown.keep hb2
        clear hown hb2 hbr CF CO hbW y0 y1 y2
        go_loop [6, 7] (fun l i => ∃ j : Nat, j ≤ per (fs m) nm k ∧ i = .int .i64 j ∧ l = .bool ((List.range j).all (fun q => decide (k ≤ it (fs m) q k)))) (fun _ i => per (fs m) nm k - (intOf i).toNat)
        case atStart => exact ⟨0, by omega, rfl, rfl⟩
        case round =>
          obtain ⟨j, hj, rfl, rfl⟩ := hrel
          by_cases hjl : j < per (fs m) nm k
          · have hcm : w2.cell? ⟨gm, j, none⟩ = some (.int .i64 (it (fs m) j k : Nat)) := by
              have := hom.cell j (by rw [itl_length]; exact hjl)
              rwa [itl_getD _ _ _ _ hjl] at this
            have HAS := Lib.hid (all_range_succ (fun q => decide (k ≤ it (fs m) q k)) j)
            have hit := HP.out.it_lt hlt j
            generalize it (fs m) j k = x at *
            have hx0 : (0 : Int) ≤ (x : Int) := Int.natCast_nonneg _
            have hj0 : (0 : Int) ≤ (j : Int) := Int.natCast_nonneg _
            have hj1 : (j : Int) < (per (fs m) nm k : Int) := by omega
            generalize hall : (List.range j).all (fun q => decide (k ≤ it (fs m) q k)) = a at *
            clear hall
            cases a with
            | false =>
              go_wp2
              go_round
              case rel => exact ⟨j + 1, by omega, by go_num, by rw [HAS.out]; simp⟩
              case measure => simp [intOf]; omega
            | true =>
              by_cases hkx : k ≤ x
              · have hd : decide (k ≤ x) = true := by simp [hkx]
                have hd' : decide ((k : Int) ≤ (x : Int)) = true := by simp [hkx]
                go_wp2
                go_round
                case rel => exact ⟨j + 1, by omega, by go_num, by rw [HAS.out]; simp [hkx]⟩
                case measure => simp [intOf]; omega
              · have hd : decide (k ≤ x) = false := by simp [hkx]
                have hd' : decide ((k : Int) ≤ (x : Int)) = false := by simp; omega
                go_wp2
                go_round
                case rel => exact ⟨j + 1, by omega, by go_num, by rw [HAS.out]; simp [hkx]⟩
                case measure => simp [intOf]; omega
          · obtain rfl : j = per (fs m) nm k := by omega
            have hcy := cycL_succ (fs m) nm (outB signs) k
            rw [HSEL.out k hlt ho] at hcy
            have hlen := cycL_length (fs m) nm (outB signs) k
            have hsz := hbw2.size
            have hom' := hom.mono (B' := w.heap.size + 1) (by omega)
            cases hall : (List.range (per (fs m) nm k)).all (fun q => decide (k ≤ it (fs m) q k)) with
            | false =>
              rw [hall] at hcy
              have hcy' : cycL (fs m) nm (outB signs) (k + 1) = cycL (fs m) nm (outB signs) k := by rw [hcy]; simp
              have HO := Lib.hid (show OO w2 (w.heap.size + 1) u3 (cycL (fs m) nm (outB signs) (k + 1)) from by rw [hcy']; exact hown2)
              clear hcy hcy' hown2 hall
              go_wp2
              go_roundw
              case rel => exact ⟨k + 1, by omega, by go_num, hbw2, HO.out⟩
              case measure => simp [intOf]; omega
            | true =>
              rw [hall] at hcy
              have HCY := Lib.hid (show cycL (fs m) nm (outB signs) (k + 1) = cycL (fs m) nm (outB signs) k ++ [itl (fs m) k (per (fs m) nm k)] from by rw [hcy]; simp)
              clear hcy hall
              go_wp2_with (at_builtin
                           refine wpList_append_row rfl (.tmp 39) (.tmp 41) rfl (w.heap.size + 1) u3 (cycL (fs m) nm (outB signs) k) rfl (hown2.keep (below_alloc _ _)) w2.heap.size (.slice (some ⟨gm, 0, none⟩) (per (fs m) nm k) cpm) (itl (fs m) k (per (fs m) nm k)) rfl (by rw [World.cell?_alloc_at _ _ _ _ rfl]; rfl) (hom'.alloc _) (by omega) (by simp; omega) ?_
                           intro v2 w3 ho2 hg2)
              go_roundw
              case rel => exact ⟨k + 1, by omega, by go_num, (hbw2.alloc (by omega) _).grown hg2 (by simp; omega) (fun q hq => (hown2.lt q hq).1), by rw [HCY.out]; exact ho2⟩
              case measure => simp [intOf]; omega
    · obtain rfl : k = nm := by omega
      clear hlt hk hm
      go_wp2
      go_ret
      exact ⟨_, rfl, hown.mono (Nat.le_succ _), hbW⟩

end Go.Proofs.Ytnehhicfepkdfaa
