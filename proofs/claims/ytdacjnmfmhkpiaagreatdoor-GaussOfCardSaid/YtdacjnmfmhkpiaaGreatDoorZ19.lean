import Derived.Test.YtdacjnmfmhkpiaaGreatDoorZ02
import Derived.Test.YtdacjnmfmhkpiaaGreatDoorZ05
/- Plain mathematics: labels by passes. -/
namespace Go.Proofs.YtdacjnmfmhkpiaaGreatDoor

def lowStep (m : Nat → Nat) (l : Nat → Nat) (h : Nat) : Nat → Nat := upd (upd l (h / 4) (min (l (h / 4)) (l (m h / 4)))) (m h / 4) (min (l (h / 4)) (l (m h / 4)))
def passAt (m : Nat → Nat) (l : Nat → Nat) : Nat → Nat → Nat
  | 0 => l
  | k + 1 => lowStep m (passAt m l k) k
def labAt (m : Nat → Nat) (N : Nat) : Nat → Nat → Nat
  | 0 => fun i => i
  | p + 1 => passAt m (labAt m N p) N

theorem lowStep_le (m l : Nat → Nat) (h i : Nat) : lowStep m l h i ≤ l i := by
  unfold lowStep upd
  by_cases e1 : i = m h / 4
  · subst e1; simp only [if_pos]; omega
  · rw [if_neg e1]
    by_cases e2 : i = h / 4
    · subst e2; simp only [if_pos]; omega
    · rw [if_neg e2]; exact Nat.le_refl _
theorem lowStep_a (m l : Nat → Nat) (h : Nat) : lowStep m l h (h / 4) = min (l (h / 4)) (l (m h / 4)) := by
  unfold lowStep upd; split <;> simp
theorem lowStep_b (m l : Nat → Nat) (h : Nat) : lowStep m l h (m h / 4) = min (l (h / 4)) (l (m h / 4)) := by
  unfold lowStep upd; simp
theorem pass_le (m l : Nat → Nat) (k i : Nat) : passAt m l k i ≤ l i := by
  induction k with
  | zero => exact Nat.le_refl _
  | succ k ih => exact Nat.le_trans (lowStep_le _ _ _ _) ih
theorem pass_edge (m l : Nat → Nat) (k h : Nat) (hh : h < k) : passAt m l k (h / 4) ≤ l (m h / 4) ∧ passAt m l k (m h / 4) ≤ l (h / 4) := by
  induction k with
  | zero => omega
  | succ k ih =>
    show lowStep m (passAt m l k) k _ ≤ _ ∧ lowStep m (passAt m l k) k _ ≤ _
    by_cases e : h = k
    · subst e
      rw [lowStep_a, lowStep_b]
      have h1 := pass_le m l h (h / 4)
      have h2 := pass_le m l h (m h / 4)
      omega
    · obtain ⟨h1, h2⟩ := ih (by omega)
      exact ⟨Nat.le_trans (lowStep_le _ _ _ _) h1, Nat.le_trans (lowStep_le _ _ _ _) h2⟩
theorem pass_conn (m l : Nat → Nat) (N k : Nat) (hk : k ≤ N) (hl : ∀ i, Conn m N i (l i)) (i : Nat) : Conn m N i (passAt m l k i) := by
  induction k generalizing i with
  | zero => exact hl i
  | succ k ih =>
    have h0 := ih (by omega)
    have e : Conn m N (k / 4) (m k / 4) := .step k (by omega) (.refl _)
    show Conn m N i (lowStep m (passAt m l k) k i)
    generalize passAt m l k = p at *
    have hmin : min (p (k / 4)) (p (m k / 4)) = p (k / 4) ∨ min (p (k / 4)) (p (m k / 4)) = p (m k / 4) := by omega
    by_cases e1 : i = m k / 4
    · subst e1; rw [lowStep_b]
      rcases hmin with h | h <;> rw [h]
      · exact e.symm.trans (h0 _)
      · exact h0 _
    · by_cases e2 : i = k / 4
      · subst e2; rw [lowStep_a]
        rcases hmin with h | h <;> rw [h]
        · exact h0 _
        · exact e.trans (h0 _)
      · have : lowStep m p k i = p i := by unfold lowStep upd; rw [if_neg e1, if_neg e2]
        rw [this]; exact h0 i
theorem lab_conn (m : Nat → Nat) (N p i : Nat) : Conn m N i (labAt m N p i) := by
  induction p generalizing i with
  | zero => exact .refl _
  | succ p ih => exact pass_conn m _ N N (Nat.le_refl _) ih i
theorem lab_le (m : Nat → Nat) (N p i : Nat) : labAt m N p i ≤ i := by
  induction p generalizing i with
  | zero => exact Nat.le_refl _
  | succ p ih => exact Nat.le_trans (pass_le _ _ _ _) (ih i)
theorem leaving {m : Nat → Nat} {N : Nat} {P : Nat → Prop} {a b : Nat} (hc : Conn m N a b) (ha : P a) (hb : ¬ P b) : ∃ h, h < N ∧ ((P (h / 4) ∧ ¬ P (m h / 4)) ∨ (P (m h / 4) ∧ ¬ P (h / 4))) := by
  induction hc with
  | refl => exact absurd ha hb
  | step h hh _ ih =>
    rcases Classical.em (P (h / 4)) with hp | hp
    · exact ⟨h, hh, .inl ⟨hp, hb⟩⟩
    · exact ih hp
  | back h hh _ ih =>
    rcases Classical.em (P (m h / 4)) with hp | hp
    · exact ⟨h, hh, .inr ⟨hp, hb⟩⟩
    · exact ih hp

theorem countP_lt {p q : Nat → Bool} {n : Nat} (h : ∀ i, i < n → p i = true → q i = true) (j : Nat) (hj : j < n) (h1 : p j = false) (h2 : q j = true) : (List.range n).countP p + 1 ≤ (List.range n).countP q := by
  induction n with
  | zero => omega
  | succ n ih =>
    rw [List.range_succ, List.countP_append, List.countP_append]
    simp only [List.countP_cons, List.countP_nil]
    by_cases e : j = n
    · subst e
      have hle : (List.range j).countP p ≤ (List.range j).countP q := List.countP_mono_left (by
        intro x hx hp; exact h x (by have := List.mem_range.1 hx; omega) hp)
      rw [h1, h2]; simp; omega
    · have := ih (fun i hi => h i (by omega)) (by omega)
      have h3 := h n (by omega)
      cases hp : p n with
      | false => simp; omega
      | true => rw [h3 hp]; simp; omega

/-- n passes are enough. -/
theorem labAt_eq {m : Nat → Nat} {N n : Nat} {F : Nat → Nat} (hN : N = 4 * n) (hm : ∀ h, h < N → m h < N) (hF : IsLab m N n F) (c : Nat) (hc : c < n) : labAt m N n c = F c := by
  have key : ∀ p, (∀ x, x < n → F x = F c → labAt m N p x = F c) ∨ p + 1 ≤ (List.range n).countP (fun x => labAt m N p x == F c) := by
    have hge : ∀ p x, x < n → F x = F c → F c ≤ labAt m N p x := fun p x hx e => by
      have h1 := hF.conn (lab_conn m N p x)
      have h2 := lab_le m N p x
      have h3 := (hF.1 (labAt m N p x) (by omega)).1
      omega
    have hFc := hF.1 c hc
    have hFF : F (F c) = F c := (hF.conn hFc.2).symm
    intro p
    induction p with
    | zero =>
      right
      have h0 : (List.range n).countP (fun _ => false) = 0 := by simp
      have := countP_lt (p := fun _ => false) (q := fun x => labAt m N 0 x == F c) (n := n) (fun _ _ h => by cases h) (F c) (by omega) rfl (by simp [labAt])
      omega
    | succ p ih =>
      rcases ih with ih | ih
      · left
        intro x hx e
        have h1 := pass_le m (labAt m N p) N x
        have h2 := hge (p + 1) x hx e
        have h3 := ih x hx e
        show passAt m (labAt m N p) N x = F c
        have h4 : F c ≤ passAt m (labAt m N p) N x := h2
        omega
      · by_cases hall : ∀ x, x < n → F x = F c → labAt m N p x = F c
        · left
          intro x hx e
          have h1 := pass_le m (labAt m N p) N x
          have h4 : F c ≤ passAt m (labAt m N p) N x := hge (p + 1) x hx e
          have h3 := hall x hx e
          show passAt m (labAt m N p) N x = F c
          omega
        · right
          have hmono : ∀ i, i < n → (labAt m N p i == F c) = true → (labAt m N (p + 1) i == F c) = true := fun i hi e => by
            have e' : labAt m N p i = F c := by simpa using e
            have hfi : F i = F c := by rw [hF.conn (lab_conn m N p i), e', hFF]
            have h1 := pass_le m (labAt m N p) N i
            have h4 : F c ≤ passAt m (labAt m N p) N i := hge (p + 1) i hi hfi
            have h5 : labAt m N (p + 1) i = F c := by show passAt m (labAt m N p) N i = F c; omega
            rw [h5]; simp
          have hex : ∃ x, x < n ∧ F x = F c ∧ labAt m N p x ≠ F c := Classical.byContradiction fun h => hall fun x hx e => Classical.byContradiction fun h' => h ⟨x, hx, e, h'⟩
          obtain ⟨x, hx, e, hne⟩ := hex
          have hcr : Conn m N (F c) x := by
            have h1 := (hF.1 x hx).2
            rw [e] at h1; exact h1.symm
          have hr : labAt m N p (F c) = F c := by
            have h1 := lab_le m N p (F c)
            have h2 := hge p (F c) (by omega) hFF
            omega
          obtain ⟨h, hh, hcase⟩ := leaving (P := fun y => labAt m N p y = F c) hcr hr hne
          have hmh := hm h hh
          have hp := pass_edge m (labAt m N p) N h hh
          have hv : ∃ v, v < n ∧ labAt m N p v ≠ F c ∧ labAt m N (p + 1) v = F c := by
            rcases hcase with ⟨h1, h2⟩ | ⟨h1, h2⟩
            · refine ⟨m h / 4, by omega, h2, ?_⟩
              have hf1 : F (h / 4) = F c := by rw [hF.conn (lab_conn m N p (h / 4)), h1, hFF]
              have hf2 : F (m h / 4) = F c := by rw [← hF.2 h hh, hf1]
              have h4 : F c ≤ passAt m (labAt m N p) N (m h / 4) := hge (p + 1) _ (by omega) hf2
              show passAt m (labAt m N p) N (m h / 4) = F c
              omega
            · refine ⟨h / 4, by omega, h2, ?_⟩
              have hf1 : F (m h / 4) = F c := by rw [hF.conn (lab_conn m N p (m h / 4)), h1, hFF]
              have hf2 : F (h / 4) = F c := by rw [hF.2 h hh, hf1]
              have h4 : F c ≤ passAt m (labAt m N p) N (h / 4) := hge (p + 1) _ (by omega) hf2
              show passAt m (labAt m N p) N (h / 4) = F c
              omega
          obtain ⟨v, hv1, hv2, hv3⟩ := hv
          have := countP_lt hmono v hv1 (by simpa using hv2) (by simpa using hv3)
          omega
  rcases key n with h | h
  · exact h c hc rfl
  · have : (List.range n).countP (fun x => labAt m N n x == F c) ≤ n := Nat.le_trans List.countP_le_length (by simp)
    omega

end Go.Proofs.YtdacjnmfmhkpiaaGreatDoor

/- Walks of the reference: Face, Faces. -/
namespace Go.Proofs.YtdacjnmfmhkpiaaGreatDoor
open Go.RowKit

theorem rturn_face (x : Nat) (hx : x ≤ 1000000) (w : World) : Calls Tryz.prog 91 #[.int .i64 (x : Int), .int .i64 (-1)] w fun e w' => e = .returned (.int .i64 (trn x 3 : Nat)) ∧ w = w' := by
  rw [← turnI_face]; exact rturn_any _ _ _ (by omega) (by omega) (by omega) (by omega)
theorem rturn_opp (x : Nat) (hx : x ≤ 1000000) (w : World) : Calls Tryz.prog 91 #[.int .i64 (x : Int), .int .i64 2] w fun e w' => e = .returned (.int .i64 (trn x 2 : Nat)) ∧ w = w' := by
  rw [← turnI_opp]; exact rturn_any _ _ _ (by omega) (by omega) (by omega) (by omega)

set_option maxHeartbeats 1600000 in
set_option maxRecDepth 100000 in
theorem rface_any (B : Option Addr) (nm cm h : Nat) (mate : List Int) (m : Nat → Nat) (w : World) (hm : RI w B nm mate) (hmm : Mates mate nm m) (hp : Perm (ff m) nm) (hh : h < nm) (hN : nm ≤ 256) (x : Int) (hx : x = (h : Nat)) :
    Calls Tryz.prog 68 #[.slice B nm cm, .int .i64 x] w (CycPost w (itl (ff m) h (per (ff m) nm h))) := by
  subst hx
  have h1 := OI.one w w.heap.size h (Nat.le_refl _)
  have hb1 := below_alloc w (.cells #[.int .i64 (h : Int)] 3)
  obtain ⟨b, off, rfl, hbb, hc⟩ := hm.2 (by omega)
  have HM := Lib.hid hmm
  have HC := Lib.hid hc
  obtain ⟨hmh, hml⟩ := hmm h hh
  have hc0 := (hb1.cell (p := ⟨b, off + h, none⟩) hbb).trans (hc h hh)
  rw [hmh] at hc0
  have HP := Lib.hid hp
  have CT := Lib.hid (rturn_face (m h) (by omega) (w.alloc (.cells #[.int .i64 (h : Int)] 3)))
  have hff : ff m h = trn (m h) 3 := rfl
  rw [← hff] at CT
  have hh0 : (0 : Int) ≤ (h : Int) := Int.natCast_nonneg _
  have hh1 : (h : Int) < (nm : Int) := by omega
  clear hp hmm hc hm hmh hff
  go_enter Tryz.func68, Tryz.ntmps68
  go_wp2_with (go_at_call 91; ((with_reducible refine CT.out.mono ?_); rintro e w1 ⟨rfl, rfl⟩))
  go_loopg [5, 6] (per (ff m) nm h - 1) (fun n v g wr => ∃ i : Nat, 0 < i ∧ n + i = per (ff m) nm h ∧ g = .int .i64 (it (ff m) i h : Nat) ∧ Below w.heap.size w wr ∧ OI wr w.heap.size v (itl (ff m) h i))
  case atStart => exact ⟨1, by omega, by have := per_pos (ff m) nm h; omega, rfl, hb1, h1⟩
  case round =>
    obtain ⟨i, hi0, hi, rfl, hbr, hown⟩ := hrel
    have hgl := HP.out.it_lt hh i
    have hpn := (HP.out.per_spec hh).2.1
    have hlen := itl_length (ff m) h i
    obtain ⟨gv, cv, rfl⟩ := hown.form_pos hlen hi0
    by_cases hil : i < per (ff m) nm h
    · have hne : ((it (ff m) i h : Int) != (h : Int)) = true := by
        have := (HP.out.per_spec hh).2.2 i hi0 hil
        simp only [bne_iff_ne, ne_eq]; omega
      have HI := Lib.hid hi
      have hsucc := itl_succ (ff m) h i
      have hil' : (itl (ff m) h i).length ≤ 1000000000 := by omega
      have HIT := Lib.hid (show it (ff m) (i + 1) h = trn (m (it (ff m) i h)) 3 from rfl)
      have HSU := Lib.hid hsucc
      have hle : (i : Int) ≤ (nm : Int) := by omega
      obtain ⟨hmx, hmxl⟩ := HM.out _ hgl
      have HCX := Lib.hid (show w.cell? ⟨b, off + it (ff m) i h, none⟩ = some (.int .i64 (m (it (ff m) i h) : Nat)) from by rw [HC.out _ hgl, hmx])
      clear hi hlen hsucc hmx
      generalize itl (ff m) h i = xs at *
      generalize it (ff m) i h = x at *
      generalize hmxx : m x = y at *
      clear hmxx
      have hx0 : (0 : Int) ≤ (x : Int) := Int.natCast_nonneg _
      have hx1 : (x : Int) < (nm : Int) := by omega
      go_wp2_with (first
        | (at_builtin
           refine wpList_append_int rfl (.tmp 29) (.tmp 31) rfl w.heap.size _ xs rfl (hown.alloc _) wr.heap.size (x : Int) rfl (by rw [World.cell?_alloc_at _ _ _ _ rfl]; rfl) hil' (Nat.le_trans hbr.size (by simp)) ?_
           intro v2 w2 hown2 hg2
           have hb2 : Below w.heap.size w w2 := (below_step hbr (below_alloc wr _)).grown hg2 (Nat.le_trans hbr.size (by simp)) (fun k hk => (World.ownsRow.lt hown k hk).1)
           have hcx := (hb2.cell (p := ⟨b, off + x, none⟩) hbb).trans HCX.out
           have C1 := Lib.hid (rturn_face y (by omega) w2))
        | (go_at_call 91; ((with_reducible refine C1.out.mono ?_); rintro e w3 ⟨rfl, rfl⟩)))
      go_roundg (gk - 1)
      case measure => have := HI.out; omega
      case rel => exact ⟨i + 1, by omega, by have := HI.out; omega, by rw [HIT.out], hb2, by rw [HSU.out]; exact hown2⟩
    · have hip : i = per (ff m) nm h := by omega
      have hret : it (ff m) i h = h := by rw [hip]; exact (HP.out.per_spec hh).1
      rw [hret]
      rw [hip] at hown
      have HF := Lib.hid (show CycPost w (itl (ff m) h (per (ff m) nm h)) (.returned (.slice (some ⟨gv, 0, none⟩) i cv)) wr from ⟨_, rfl, by rw [hip]; exact hown, hbr⟩)
      clear hret hip hil hi hlen hown
      go_wp2
      go_ret
      exact HF.out

theorem sel_true (f : Nat → Nat) (N h : Nat) : sel f N (fun _ => true) h = fst f N h := by simp [sel, fst]
theorem all_itl (f : Nat → Nat) (N h : Nat) : fst f N h = (List.range (per f N h)).all (fun i => decide (h ≤ it f i h)) := by
  unfold fst cyc; rw [List.all_map]; rfl
theorem all_range_succ (p : Nat → Bool) (k : Nat) : (List.range (k + 1)).all p = ((List.range k).all p && p k) := by
  rw [List.range_succ, List.all_append]; simp

set_option maxHeartbeats 1600000 in
set_option maxRecDepth 100000 in
theorem rfaces_any (B : Option Addr) (nm cm : Nat) (mate : List Int) (m : Nat → Nat) (w : World) (hm : RI w B nm mate) (hmm : Mates mate nm m) (hp : Perm (ff m) nm) (hN : nm ≤ 256) :
    Calls Tryz.prog 39 #[.slice B nm cm] w (CycsPost w (cycL (ff m) nm (fun _ => true) nm)) := by
  have HP := Lib.hid hp
  have HMM := Lib.hid hmm
  clear hp hmm
  go_enter Tryz.func39, Tryz.ntmps39
  go_wp2
  go_loopw [3, 4, 5, 6, 7] (fun v i _ _ _ wr => ∃ k : Nat, k ≤ nm ∧ i = .int .i64 k ∧ Below w.heap.size w wr ∧ OO wr w.heap.size v (cycL (ff m) nm (fun _ => true) k)) (fun _ i _ _ _ _ => nm - (intOf i).toNat)
  case atStart => exact ⟨0, by omega, rfl, Below.refl _ _, OO.nil _ _⟩
  case round =>
    obtain ⟨k, hk, rfl, hbr, hown⟩ := hrel
    by_cases hlt : k < nm
    · have CF := Lib.hid (rface_any B nm cm k mate m wr (hm.keep hbr) HMM.out HP.out hlt hN _ rfl)
      have hpn := (HP.out.per_spec hlt).2.1
      have hk0 : (0 : Int) ≤ (k : Int) := Int.natCast_nonneg _
      have hk1 : (k : Int) < (nm : Int) := by omega
      go_wp2_with (go_at_call 68; ((with_reducible refine CF.out.mono ?_); rintro e w2 ⟨vm, rfl, hom, hb2⟩; obtain ⟨gm, cpm, rfl⟩ := hom.form_pos (itl_length (ff m) k (per (ff m) nm k)) (per_pos (ff m) nm k)))
      have hbw2 := below_step hbr hb2
      have hszr := hbr.size
      have hown2 := hown.keep hb2
      clear hown hb2 hbr CF
      go_loop [6, 7] (fun l i => ∃ j : Nat, j ≤ per (ff m) nm k ∧ i = .int .i64 j ∧ l = .bool ((List.range j).all (fun q => decide (k ≤ it (ff m) q k)))) (fun _ i => per (ff m) nm k - (intOf i).toNat)
      case atStart => exact ⟨0, by omega, rfl, rfl⟩
      case round =>
        obtain ⟨j, hj, rfl, rfl⟩ := hrel
        by_cases hjl : j < per (ff m) nm k
        · have hcm : w2.cell? ⟨gm, j, none⟩ = some (.int .i64 (it (ff m) j k : Nat)) := by
            have := hom.cell j (by rw [itl_length]; exact hjl)
            rwa [itl_getD _ _ _ _ hjl] at this
          have HAS := Lib.hid (all_range_succ (fun q => decide (k ≤ it (ff m) q k)) j)
          have hit := HP.out.it_lt hlt j
          generalize it (ff m) j k = x at *
          have hx0 : (0 : Int) ≤ (x : Int) := Int.natCast_nonneg _
          have hj0 : (0 : Int) ≤ (j : Int) := Int.natCast_nonneg _
          have hj1 : (j : Int) < (per (ff m) nm k : Int) := by omega
          generalize hall : (List.range j).all (fun q => decide (k ≤ it (ff m) q k)) = a at *
          clear hall
          cases a with
          | false =>
            go_wp2
            go_round
            case rel => exact ⟨j + 1, by omega, by go_num, by rw [HAS.out]; simp⟩
            case measure => simp [intOf]; omega
          | true =>
            by_cases hkx : k ≤ x
            · have hd : decide (k ≤ x) = true := by simp [hkx]
              have hd' : decide ((k : Int) ≤ (x : Int)) = true := by simp [hkx]
              go_wp2
              go_round
              case rel => exact ⟨j + 1, by omega, by go_num, by rw [HAS.out]; simp [hkx]⟩
              case measure => simp [intOf]; omega
            · have hd : decide (k ≤ x) = false := by simp [hkx]
              have hd' : decide ((k : Int) ≤ (x : Int)) = false := by simp; omega
              go_wp2
              go_round
              case rel => exact ⟨j + 1, by omega, by go_num, by rw [HAS.out]; simp [hkx]⟩
              case measure => simp [intOf]; omega
        · obtain rfl : j = per (ff m) nm k := by omega
          have hcy := cycL_succ (ff m) nm (fun _ => true) k
          rw [sel_true, all_itl] at hcy
          have hlen := cycL_length (ff m) nm (fun _ => true) k
          have hsz := hbw2.size
          have hom' := hom.mono (B' := w.heap.size) hszr
          cases hall : (List.range (per (ff m) nm k)).all (fun q => decide (k ≤ it (ff m) q k)) with
          | false =>
            rw [hall] at hcy
            have hcy' : cycL (ff m) nm (fun _ => true) (k + 1) = cycL (ff m) nm (fun _ => true) k := by rw [hcy]; simp
            have HO := Lib.hid (show OO w2 w.heap.size u3 (cycL (ff m) nm (fun _ => true) (k + 1)) from by rw [hcy']; exact hown2)
            clear hcy hcy' hown2 hall
            go_wp2
            go_roundw
            case rel => exact ⟨k + 1, by omega, by go_num, hbw2, HO.out⟩
            case measure => simp [intOf]; omega
          | true =>
            rw [hall] at hcy
            have HCY := Lib.hid (show cycL (ff m) nm (fun _ => true) (k + 1) = cycL (ff m) nm (fun _ => true) k ++ [itl (ff m) k (per (ff m) nm k)] from by rw [hcy]; simp)
            clear hcy hall
            go_wp2_with (at_builtin
                         refine wpList_append_row rfl (.tmp 33) (.tmp 35) rfl w.heap.size u3 (cycL (ff m) nm (fun _ => true) k) rfl (hown2.keep (below_alloc _ _)) w2.heap.size (.slice (some ⟨gm, 0, none⟩) (per (ff m) nm k) cpm) (itl (ff m) k (per (ff m) nm k)) rfl (by rw [World.cell?_alloc_at _ _ _ _ rfl]; rfl) (hom'.alloc _) (by omega) (Nat.le_trans hsz (by simp)) ?_
                         intro v2 w3 ho2 hg2)
            go_roundw
            case rel => exact ⟨k + 1, by omega, by go_num, (below_step hbw2 (below_alloc w2 _)).grown hg2 (Nat.le_trans hsz (by simp)) (fun q hq => (hown2.lt q hq).1), by rw [HCY.out]; exact ho2⟩
            case measure => simp [intOf]; omega
    · obtain rfl : k = nm := by omega
      clear hlt hk hm
      go_wp2
      go_ret
      exact ⟨_, rfl, hown, hbr⟩

end Go.Proofs.YtdacjnmfmhkpiaaGreatDoor

/- Walks of the reference: Strand, Strands, Graph, Components. -/
namespace Go.Proofs.YtdacjnmfmhkpiaaGreatDoor
open Go.RowKit

set_option maxHeartbeats 1600000 in
set_option maxRecDepth 100000 in
theorem rstrand_any (A B : Option Addr) (ns cs nm cm : Nat) (lp : Int) (h : Nat) (mate : List Int) (m : Nat → Nat) (w : World) (hm : RI w B nm mate) (hmm : Mates mate nm m) (hp : Perm (fs m) nm) (hh : h < nm) (hN : nm ≤ 256) (x : Int) (hx : x = (h : Nat)) :
    Calls Tryz.prog 69 #[dval A ns cs B nm cm lp, .int .i64 x] w (CycPost w (itl (fs m) h (per (fs m) nm h))) := by
  subst hx
  have hbx := below_alloc w (dbox A ns cs B nm cm lp)
  have h1 := (OI.one (w.alloc (dbox A ns cs B nm cm lp)) (w.alloc (dbox A ns cs B nm cm lp)).heap.size h (Nat.le_refl _)).mono (Nat.le_refl (w.alloc (dbox A ns cs B nm cm lp)).heap.size)
  have hb1 := below_step hbx (below_alloc (w.alloc (dbox A ns cs B nm cm lp)) (.cells #[.int .i64 (h : Int)] 3))
  have hdb := (DB.new w A ns cs B nm cm lp).keep (below_alloc _ (.cells #[.int .i64 (h : Int)] 3))
  have hszx : (w.alloc (dbox A ns cs B nm cm lp)).heap.size = w.heap.size + 1 := by simp
  rw [hszx] at h1
  clear hszx
  obtain ⟨b, off, rfl, hbb, hc⟩ := hm.2 (by omega)
  have HM := Lib.hid hmm
  have HC := Lib.hid hc
  obtain ⟨hmh, hml⟩ := hmm h hh
  have hc0 := (hb1.cell (p := ⟨b, off + h, none⟩) hbb).trans (hc h hh)
  rw [hmh] at hc0
  have HP := Lib.hid hp
  have CT := Lib.hid (rturn_opp (m h) (by omega) ((w.alloc (dbox A ns cs (some ⟨b, off, none⟩) nm cm lp)).alloc (.cells #[.int .i64 (h : Int)] 3)))
  obtain ⟨x0, x1, x2, xlt⟩ := hdb
  have hxlt : w.heap.size < w.heap.size + 1 := by omega
  have hfs : fs m h = trn (m h) 2 := rfl
  rw [← hfs] at CT
  have hh0 : (0 : Int) ≤ (h : Int) := Int.natCast_nonneg _
  have hh1 : (h : Int) < (nm : Int) := by omega
  clear hp hmm hc hm hmh hfs hbx
  go_enter Tryz.func69, Tryz.ntmps69
  go_wp2_with (go_at_call 91; ((with_reducible refine CT.out.mono ?_); rintro e w1 ⟨rfl, rfl⟩))
  generalize hwA : (w.alloc (dbox A ns cs (some ⟨b, off, none⟩) nm cm lp)).alloc (.cells #[.int .i64 (h : Int)] 3) = wA at h1 hb1 x0 x1 x2 xlt hc0 ⊢
  clear hwA
  go_loopg [5, 6] (per (fs m) nm h - 1) (fun n v g wr => ∃ i : Nat, 0 < i ∧ n + i = per (fs m) nm h ∧ g = .int .i64 (it (fs m) i h : Nat) ∧ Below (w.heap.size + 1) wA wr ∧ OI wr (w.heap.size + 1) v (itl (fs m) h i))
  case atStart => exact ⟨1, by omega, by have := per_pos (fs m) nm h; omega, rfl, Below.refl _ _, h1⟩
  case round =>
    obtain ⟨i, hi0, hi, rfl, hbr, hown⟩ := hrel
    have y1 := (hbr.cell (p := ⟨w.heap.size, 1, none⟩) hxlt).trans x1
    have hszr := hbr.size
    have hgl := HP.out.it_lt hh i
    have hpn := (HP.out.per_spec hh).2.1
    have hlen := itl_length (fs m) h i
    obtain ⟨gv, cv, rfl⟩ := hown.form_pos hlen hi0
    by_cases hil : i < per (fs m) nm h
    · have hne : ((it (fs m) i h : Int) != (h : Int)) = true := by
        have := (HP.out.per_spec hh).2.2 i hi0 hil
        simp only [bne_iff_ne, ne_eq]; omega
      have HI := Lib.hid hi
      have hsucc := itl_succ (fs m) h i
      have hil' : (itl (fs m) h i).length ≤ 1000000000 := by omega
      have HIT := Lib.hid (show it (fs m) (i + 1) h = trn (m (it (fs m) i h)) 2 from rfl)
      have HSU := Lib.hid hsucc
      have hle : (i : Int) ≤ (nm : Int) := by omega
      obtain ⟨hmx, hmxl⟩ := HM.out _ hgl
      have HCX := Lib.hid (show wA.cell? ⟨b, off + it (fs m) i h, none⟩ = some (.int .i64 (m (it (fs m) i h) : Nat)) from by rw [← hmx, ← HC.out _ hgl]; exact hb1.cell (p := ⟨b, off + it (fs m) i h, none⟩) hbb)
      clear hi hlen hsucc hmx
      generalize itl (fs m) h i = xs at *
      generalize it (fs m) i h = x at *
      generalize hmxx : m x = y at *
      clear hmxx
      have hx0 : (0 : Int) ≤ (x : Int) := Int.natCast_nonneg _
      have hx1 : (x : Int) < (nm : Int) := by omega
      go_wp2_with (first
        | (at_builtin
           refine wpList_append_int rfl (.tmp 32) (.tmp 34) rfl (w.heap.size + 1) _ xs rfl (hown.alloc _) wr.heap.size (x : Int) rfl (by rw [World.cell?_alloc_at _ _ _ _ rfl]; rfl) hil' (by simp; omega) ?_
           intro v2 w2 hown2 hg2
           have hb2 : Below (w.heap.size + 1) wA w2 := (hbr.alloc (by omega) _).grown hg2 (by simp; omega) (fun k hk => (World.ownsRow.lt hown k hk).1)
           have y2 := (hb2.cell (p := ⟨w.heap.size, 1, none⟩) hxlt).trans x1
           have hcx := (hb2.cell (p := ⟨b, off + x, none⟩) (by show b < w.heap.size + 1; omega)).trans HCX.out
           have C1 := Lib.hid (rturn_opp y (by omega) w2))
        | (go_at_call 91; ((with_reducible refine C1.out.mono ?_); rintro e w3 ⟨rfl, rfl⟩)))
      go_roundg (gk - 1)
      case measure => have := HI.out; omega
      case rel => exact ⟨i + 1, by omega, by have := HI.out; omega, by rw [HIT.out], hb2, by rw [HSU.out]; exact hown2⟩
    · have hip : i = per (fs m) nm h := by omega
      have hret : it (fs m) i h = h := by rw [hip]; exact (HP.out.per_spec hh).1
      rw [hret]
      rw [hip] at hown
      have HF := Lib.hid (show CycPost w (itl (fs m) h (per (fs m) nm h)) (.returned (.slice (some ⟨gv, 0, none⟩) i cv)) wr from ⟨_, rfl, by rw [hip]; exact hown.mono (Nat.le_succ _), hb1.trans (hbr.mono (Nat.le_succ _))⟩)
      clear hret hip hil hi hlen hown
      go_wp2
      go_ret
      exact HF.out

set_option maxHeartbeats 1600000 in
set_option maxRecDepth 100000 in
theorem rstrands_any (A B : Option Addr) (ns cs nm cm : Nat) (lp : Int) (signs mate : List Int) (m : Nat → Nat) (w : World) (hs : RI w A ns signs) (hnm : nm = 4 * ns) (hm : RI w B nm mate) (hmm : Mates mate nm m) (hp : Perm (fs m) nm) (hN : nm ≤ 256) (hout : ∀ h, h < nm → outB signs h = true → outB signs (fs m h) = true) :
    Calls Tryz.prog 41 #[dval A ns cs B nm cm lp] w (CycsPost w (cycL (fs m) nm (outB signs) nm)) := by
  have HP := Lib.hid hp
  have HMM := Lib.hid hmm
  have HNM := Lib.hid hnm
  have hbx := below_alloc w (dbox A ns cs B nm cm lp)
  obtain ⟨x0, x1, x2, xlt⟩ := DB.new w A ns cs B nm cm lp
  have hszA : (w.alloc (dbox A ns cs B nm cm lp)).heap.size = w.heap.size + 1 := by simp
  have hsel : ∀ k, k < nm → outB signs k = true → sel (fs m) nm (outB signs) k = (List.range (per (fs m) nm k)).all (fun q => decide (k ≤ it (fs m) q k)) := fun k hk ho => by
    have hito : ∀ i, outB signs (it (fs m) i k) = true := fun i => by
      induction i with
      | zero => exact ho
      | succ i ih => exact hout _ (hp.it_lt hk i) ih
    unfold sel cyc
    rw [ho, Bool.true_and, List.all_map]
    congr 1
    funext i
    simp [hito i]
  have hsel0 : ∀ k, outB signs k = false → sel (fs m) nm (outB signs) k = false := fun k h => by simp [sel, h]
  have HSEL := Lib.hid hsel
  have HSEL0 := Lib.hid hsel0
  clear hp hmm hnm hsel hsel0 hout
  go_enter Tryz.func41, Tryz.ntmps41
  go_wp2
  generalize hwA : w.alloc (dbox A ns cs B nm cm lp) = wA at hbx x0 x1 x2 xlt hszA ⊢
  clear hwA
  have hxlt : w.heap.size < w.heap.size + 1 := by omega
  go_loopw [3, 4, 5, 6, 7] (fun v i _ _ _ wr => ∃ k : Nat, k ≤ nm ∧ i = .int .i64 k ∧ Below (w.heap.size + 1) wA wr ∧ OO wr (w.heap.size + 1) v (cycL (fs m) nm (outB signs) k)) (fun _ i _ _ _ _ => nm - (intOf i).toNat)
  case atStart => exact ⟨0, by omega, rfl, Below.refl _ _, OO.nil _ _⟩
  case round =>
    obtain ⟨k, hk, rfl, hbr, hown⟩ := hrel
    have hszr := hbr.size
    have hbW : Below w.heap.size w wr := hbx.trans (hbr.mono (Nat.le_succ _))
    have y0 := (hbr.cell (p := ⟨w.heap.size, 0, none⟩) hxlt).trans x0
    have y1 := (hbr.cell (p := ⟨w.heap.size, 1, none⟩) hxlt).trans x1
    have y2 := (hbr.cell (p := ⟨w.heap.size, 2, none⟩) hxlt).trans x2
    by_cases hlt : k < nm
    · have CF := Lib.hid (rstrand_any A B ns cs nm cm lp k mate m wr (hm.keep hbW) HMM.out HP.out hlt hN _ rfl)
      have CO := Lib.hid (rout_any A ns cs signs k wr (hs.keep hbW) (by have := HNM.out; omega) (by have := HNM.out; omega))
      have hpn := (HP.out.per_spec hlt).2.1
      have hk0 : (0 : Int) ≤ (k : Int) := Int.natCast_nonneg _
      have hk1 : (k : Int) < (nm : Int) := by omega
      cases ho : outB signs k with
      | false =>
       rw [ho] at CO
       have hcy := cycL_succ (fs m) nm (outB signs) k
       rw [HSEL0.out k ho] at hcy
       have HO := Lib.hid (show OO wr (w.heap.size + 1) u3 (cycL (fs m) nm (outB signs) (k + 1)) from by rw [hcy]; simpa using hown)
       clear hcy hown ho
       go_wp2_with (go_at_call 37; ((with_reducible refine CO.out.mono ?_); rintro e w' ⟨rfl, rfl⟩))
       go_roundw
       case rel => exact ⟨k + 1, by omega, by go_num, hbr, HO.out⟩
       case measure => simp [intOf]; omega
      | true =>
        rw [ho] at CO
        go_wp2_with (first
         | (go_at_call 37; ((with_reducible refine CO.out.mono ?_); rintro e w' ⟨rfl, rfl⟩))
         | (go_at_call 69; ((with_reducible refine CF.out.mono ?_); rintro e w2 ⟨vm, rfl, hom, hb2⟩; obtain ⟨gm, cpm, rfl⟩ := hom.form_pos (itl_length (fs m) k (per (fs m) nm k)) (per_pos (fs m) nm k))))
        have hbw2 : Below (w.heap.size + 1) wA w2 := hbr.trans (hb2.mono (by omega))
        have hown2 := hown.keep hb2
        clear hown hb2 hbr CF CO hbW y0 y1 y2
        go_loop [6, 7] (fun l i => ∃ j : Nat, j ≤ per (fs m) nm k ∧ i = .int .i64 j ∧ l = .bool ((List.range j).all (fun q => decide (k ≤ it (fs m) q k)))) (fun _ i => per (fs m) nm k - (intOf i).toNat)
        case atStart => exact ⟨0, by omega, rfl, rfl⟩
        case round =>
          obtain ⟨j, hj, rfl, rfl⟩ := hrel
          by_cases hjl : j < per (fs m) nm k
          · have hcm : w2.cell? ⟨gm, j, none⟩ = some (.int .i64 (it (fs m) j k : Nat)) := by
              have := hom.cell j (by rw [itl_length]; exact hjl)
              rwa [itl_getD _ _ _ _ hjl] at this
            have HAS := Lib.hid (all_range_succ (fun q => decide (k ≤ it (fs m) q k)) j)
            have hit := HP.out.it_lt hlt j
            generalize it (fs m) j k = x at *
            have hx0 : (0 : Int) ≤ (x : Int) := Int.natCast_nonneg _
            have hj0 : (0 : Int) ≤ (j : Int) := Int.natCast_nonneg _
            have hj1 : (j : Int) < (per (fs m) nm k : Int) := by omega
            generalize hall : (List.range j).all (fun q => decide (k ≤ it (fs m) q k)) = a at *
            clear hall
            cases a with
            | false =>
              go_wp2
              go_round
              case rel => exact ⟨j + 1, by omega, by go_num, by rw [HAS.out]; simp⟩
              case measure => simp [intOf]; omega
            | true =>
              by_cases hkx : k ≤ x
              · have hd : decide (k ≤ x) = true := by simp [hkx]
                have hd' : decide ((k : Int) ≤ (x : Int)) = true := by simp [hkx]
                go_wp2
                go_round
                case rel => exact ⟨j + 1, by omega, by go_num, by rw [HAS.out]; simp [hkx]⟩
                case measure => simp [intOf]; omega
              · have hd : decide (k ≤ x) = false := by simp [hkx]
                have hd' : decide ((k : Int) ≤ (x : Int)) = false := by simp; omega
                go_wp2
                go_round
                case rel => exact ⟨j + 1, by omega, by go_num, by rw [HAS.out]; simp [hkx]⟩
                case measure => simp [intOf]; omega
          · obtain rfl : j = per (fs m) nm k := by omega
            have hcy := cycL_succ (fs m) nm (outB signs) k
            rw [HSEL.out k hlt ho] at hcy
            have hlen := cycL_length (fs m) nm (outB signs) k
            have hsz := hbw2.size
            have hom' := hom.mono (B' := w.heap.size + 1) (by omega)
            cases hall : (List.range (per (fs m) nm k)).all (fun q => decide (k ≤ it (fs m) q k)) with
            | false =>
              rw [hall] at hcy
              have hcy' : cycL (fs m) nm (outB signs) (k + 1) = cycL (fs m) nm (outB signs) k := by rw [hcy]; simp
              have HO := Lib.hid (show OO w2 (w.heap.size + 1) u3 (cycL (fs m) nm (outB signs) (k + 1)) from by rw [hcy']; exact hown2)
              clear hcy hcy' hown2 hall
              go_wp2
              go_roundw
              case rel => exact ⟨k + 1, by omega, by go_num, hbw2, HO.out⟩
              case measure => simp [intOf]; omega
            | true =>
              rw [hall] at hcy
              have HCY := Lib.hid (show cycL (fs m) nm (outB signs) (k + 1) = cycL (fs m) nm (outB signs) k ++ [itl (fs m) k (per (fs m) nm k)] from by rw [hcy]; simp)
              clear hcy hall
              go_wp2_with (at_builtin
                           refine wpList_append_row rfl (.tmp 39) (.tmp 41) rfl (w.heap.size + 1) u3 (cycL (fs m) nm (outB signs) k) rfl (hown2.keep (below_alloc _ _)) w2.heap.size (.slice (some ⟨gm, 0, none⟩) (per (fs m) nm k) cpm) (itl (fs m) k (per (fs m) nm k)) rfl (by rw [World.cell?_alloc_at _ _ _ _ rfl]; rfl) (hom'.alloc _) (by omega) (by simp; omega) ?_
                           intro v2 w3 ho2 hg2)
              go_roundw
              case rel => exact ⟨k + 1, by omega, by go_num, (hbw2.alloc (by omega) _).grown hg2 (by simp; omega) (fun q hq => (hown2.lt q hq).1), by rw [HCY.out]; exact ho2⟩
              case measure => simp [intOf]; omega
    · obtain rfl : k = nm := by omega
      clear hlt hk hm
      go_wp2
      go_ret
      exact ⟨_, rfl, hown.mono (Nat.le_succ _), hbW⟩

end Go.Proofs.YtdacjnmfmhkpiaaGreatDoor
