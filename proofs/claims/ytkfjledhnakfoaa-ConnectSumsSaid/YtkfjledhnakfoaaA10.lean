import Derived.Test.YtkfjledhnakfoaaA02
import Derived.Test.YtkfjledhnakfoaaA09
import Derived.Test.YtkfjledhnakfoaaA04
/- Plain mathematics: labels by passes. -/
namespace Go.Proofs.Ytkfjledhnakfoaa

def lowStep (m : Nat → Nat) (l : Nat → Nat) (h : Nat) : Nat → Nat := upd (upd l (h / 4) (min (l (h / 4)) (l (m h / 4)))) (m h / 4) (min (l (h / 4)) (l (m h / 4)))
def passAt (m : Nat → Nat) (l : Nat → Nat) : Nat → Nat → Nat
  | 0 => l
  | k + 1 => lowStep m (passAt m l k) k
def labAt (m : Nat → Nat) (N : Nat) : Nat → Nat → Nat
  | 0 => fun i => i
  | p + 1 => passAt m (labAt m N p) N

theorem lowStep_le (m l : Nat → Nat) (h i : Nat) : lowStep m l h i ≤ l i := by
  unfold lowStep upd
  by_cases e1 : i = m h / 4
  · subst e1; simp only [if_pos]; omega
  · rw [if_neg e1]
    by_cases e2 : i = h / 4
    · subst e2; simp only [if_pos]; omega
    · rw [if_neg e2]; exact Nat.le_refl _
theorem lowStep_a (m l : Nat → Nat) (h : Nat) : lowStep m l h (h / 4) = min (l (h / 4)) (l (m h / 4)) := by
  unfold lowStep upd; split <;> simp
theorem lowStep_b (m l : Nat → Nat) (h : Nat) : lowStep m l h (m h / 4) = min (l (h / 4)) (l (m h / 4)) := by
  unfold lowStep upd; simp
theorem pass_le (m l : Nat → Nat) (k i : Nat) : passAt m l k i ≤ l i := by
  induction k with
  | zero => exact Nat.le_refl _
  | succ k ih => exact Nat.le_trans (lowStep_le _ _ _ _) ih
theorem pass_edge (m l : Nat → Nat) (k h : Nat) (hh : h < k) : passAt m l k (h / 4) ≤ l (m h / 4) ∧ passAt m l k (m h / 4) ≤ l (h / 4) := by
  induction k with
  | zero => omega
  | succ k ih =>
    show lowStep m (passAt m l k) k _ ≤ _ ∧ lowStep m (passAt m l k) k _ ≤ _
    by_cases e : h = k
    · subst e
      rw [lowStep_a, lowStep_b]
      have h1 := pass_le m l h (h / 4)
      have h2 := pass_le m l h (m h / 4)
      omega
    · obtain ⟨h1, h2⟩ := ih (by omega)
      exact ⟨Nat.le_trans (lowStep_le _ _ _ _) h1, Nat.le_trans (lowStep_le _ _ _ _) h2⟩
theorem pass_conn (m l : Nat → Nat) (N k : Nat) (hk : k ≤ N) (hl : ∀ i, Conn m N i (l i)) (i : Nat) : Conn m N i (passAt m l k i) := by
  induction k generalizing i with
  | zero => exact hl i
  | succ k ih =>
    have h0 := ih (by omega)
    have e : Conn m N (k / 4) (m k / 4) := .step k (by omega) (.refl _)
    show Conn m N i (lowStep m (passAt m l k) k i)
    generalize passAt m l k = p at *
    have hmin : min (p (k / 4)) (p (m k / 4)) = p (k / 4) ∨ min (p (k / 4)) (p (m k / 4)) = p (m k / 4) := by omega
    by_cases e1 : i = m k / 4
    · subst e1; rw [lowStep_b]
      rcases hmin with h | h <;> rw [h]
      · exact e.symm.trans (h0 _)
      · exact h0 _
    · by_cases e2 : i = k / 4
      · subst e2; rw [lowStep_a]
        rcases hmin with h | h <;> rw [h]
        · exact h0 _
        · exact e.trans (h0 _)
      · have : lowStep m p k i = p i := by unfold lowStep upd; rw [if_neg e1, if_neg e2]
        rw [this]; exact h0 i
theorem lab_conn (m : Nat → Nat) (N p i : Nat) : Conn m N i (labAt m N p i) := by
  induction p generalizing i with
  | zero => exact .refl _
  | succ p ih => exact pass_conn m _ N N (Nat.le_refl _) ih i
theorem lab_le (m : Nat → Nat) (N p i : Nat) : labAt m N p i ≤ i := by
  induction p generalizing i with
  | zero => exact Nat.le_refl _
  | succ p ih => exact Nat.le_trans (pass_le _ _ _ _) (ih i)
theorem leaving {m : Nat → Nat} {N : Nat} {P : Nat → Prop} {a b : Nat} (hc : Conn m N a b) (ha : P a) (hb : ¬ P b) : ∃ h, h < N ∧ ((P (h / 4) ∧ ¬ P (m h / 4)) ∨ (P (m h / 4) ∧ ¬ P (h / 4))) := by
  induction hc with
  | refl => exact absurd ha hb
  | step h hh _ ih =>
    rcases Classical.em (P (h / 4)) with hp | hp
    · exact ⟨h, hh, .inl ⟨hp, hb⟩⟩
    · exact ih hp
  | back h hh _ ih =>
    rcases Classical.em (P (m h / 4)) with hp | hp
    · exact ⟨h, hh, .inr ⟨hp, hb⟩⟩
    · exact ih hp

theorem countP_lt {p q : Nat → Bool} {n : Nat} (h : ∀ i, i < n → p i = true → q i = true) (j : Nat) (hj : j < n) (h1 : p j = false) (h2 : q j = true) : (List.range n).countP p + 1 ≤ (List.range n).countP q := by
  induction n with
  | zero => omega
  | succ n ih =>
    rw [List.range_succ, List.countP_append, List.countP_append]
    simp only [List.countP_cons, List.countP_nil]
    by_cases e : j = n
    · subst e
      have hle : (List.range j).countP p ≤ (List.range j).countP q := List.countP_mono_left (by
        intro x hx hp; exact h x (by have := List.mem_range.1 hx; omega) hp)
      rw [h1, h2]; simp; omega
    · have := ih (fun i hi => h i (by omega)) (by omega)
      have h3 := h n (by omega)
      cases hp : p n with
      | false => simp; omega
      | true => rw [h3 hp]; simp; omega

/-- n passes are enough. -/
theorem labAt_eq {m : Nat → Nat} {N n : Nat} {F : Nat → Nat} (hN : N = 4 * n) (hm : ∀ h, h < N → m h < N) (hF : IsLab m N n F) (c : Nat) (hc : c < n) : labAt m N n c = F c := by
  have key : ∀ p, (∀ x, x < n → F x = F c → labAt m N p x = F c) ∨ p + 1 ≤ (List.range n).countP (fun x => labAt m N p x == F c) := by
    have hge : ∀ p x, x < n → F x = F c → F c ≤ labAt m N p x := fun p x hx e => by
      have h1 := hF.conn (lab_conn m N p x)
      have h2 := lab_le m N p x
      have h3 := (hF.1 (labAt m N p x) (by omega)).1
      omega
    have hFc := hF.1 c hc
    have hFF : F (F c) = F c := (hF.conn hFc.2).symm
    intro p
    induction p with
    | zero =>
      right
      have h0 : (List.range n).countP (fun _ => false) = 0 := by simp
      have := countP_lt (p := fun _ => false) (q := fun x => labAt m N 0 x == F c) (n := n) (fun _ _ h => by cases h) (F c) (by omega) rfl (by simp [labAt])
      omega
    | succ p ih =>
      rcases ih with ih | ih
      · left
        intro x hx e
        have h1 := pass_le m (labAt m N p) N x
        have h2 := hge (p + 1) x hx e
        have h3 := ih x hx e
        show passAt m (labAt m N p) N x = F c
        have h4 : F c ≤ passAt m (labAt m N p) N x := h2
        omega
      · by_cases hall : ∀ x, x < n → F x = F c → labAt m N p x = F c
        · left
          intro x hx e
          have h1 := pass_le m (labAt m N p) N x
          have h4 : F c ≤ passAt m (labAt m N p) N x := hge (p + 1) x hx e
          have h3 := hall x hx e
          show passAt m (labAt m N p) N x = F c
          omega
        · right
          have hmono : ∀ i, i < n → (labAt m N p i == F c) = true → (labAt m N (p + 1) i == F c) = true := fun i hi e => by
            have e' : labAt m N p i = F c := by simpa using e
            have hfi : F i = F c := by rw [hF.conn (lab_conn m N p i), e', hFF]
            have h1 := pass_le m (labAt m N p) N i
            have h4 : F c ≤ passAt m (labAt m N p) N i := hge (p + 1) i hi hfi
            have h5 : labAt m N (p + 1) i = F c := by show passAt m (labAt m N p) N i = F c; omega
            rw [h5]; simp
          have hex : ∃ x, x < n ∧ F x = F c ∧ labAt m N p x ≠ F c := Classical.byContradiction fun h => hall fun x hx e => Classical.byContradiction fun h' => h ⟨x, hx, e, h'⟩
          obtain ⟨x, hx, e, hne⟩ := hex
          have hcr : Conn m N (F c) x := by
            have h1 := (hF.1 x hx).2
            rw [e] at h1; exact h1.symm
          have hr : labAt m N p (F c) = F c := by
            have h1 := lab_le m N p (F c)
            have h2 := hge p (F c) (by omega) hFF
            omega
          obtain ⟨h, hh, hcase⟩ := leaving (P := fun y => labAt m N p y = F c) hcr hr hne
          have hmh := hm h hh
          have hp := pass_edge m (labAt m N p) N h hh
          have hv : ∃ v, v < n ∧ labAt m N p v ≠ F c ∧ labAt m N (p + 1) v = F c := by
            rcases hcase with ⟨h1, h2⟩ | ⟨h1, h2⟩
            · refine ⟨m h / 4, by omega, h2, ?_⟩
              have hf1 : F (h / 4) = F c := by rw [hF.conn (lab_conn m N p (h / 4)), h1, hFF]
              have hf2 : F (m h / 4) = F c := by rw [← hF.2 h hh, hf1]
              have h4 : F c ≤ passAt m (labAt m N p) N (m h / 4) := hge (p + 1) _ (by omega) hf2
              show passAt m (labAt m N p) N (m h / 4) = F c
              omega
            · refine ⟨h / 4, by omega, h2, ?_⟩
              have hf1 : F (m h / 4) = F c := by rw [hF.conn (lab_conn m N p (m h / 4)), h1, hFF]
              have hf2 : F (h / 4) = F c := by rw [hF.2 h hh, hf1]
              have h4 : F c ≤ passAt m (labAt m N p) N (h / 4) := hge (p + 1) _ (by omega) hf2
              show passAt m (labAt m N p) N (h / 4) = F c
              omega
          obtain ⟨v, hv1, hv2, hv3⟩ := hv
          have := countP_lt hmono v hv1 (by simpa using hv2) (by simpa using hv3)
          omega
  rcases key n with h | h
  · exact h c hc rfl
  · have : (List.range n).countP (fun x => labAt m N n x == F c) ≤ n := Nat.le_trans List.countP_le_length (by simp)
    omega

end Go.Proofs.Ytkfjledhnakfoaa

/- Walks of the reference: Face, Faces. -/
namespace Go.Proofs.Ytkfjledhnakfoaa
open Go.RowKit

theorem rturn_face (x : Nat) (hx : x ≤ 1000000) (w : World) : Calls Try.prog 128 #[.int .i64 (x : Int), .int .i64 (-1)] w fun e w' => e = .returned (.int .i64 (trn x 3 : Nat)) ∧ w = w' := by
  rw [← turnI_face]; exact rturn_any _ _ _ (by omega) (by omega) (by omega) (by omega)
theorem rturn_opp (x : Nat) (hx : x ≤ 1000000) (w : World) : Calls Try.prog 128 #[.int .i64 (x : Int), .int .i64 2] w fun e w' => e = .returned (.int .i64 (trn x 2 : Nat)) ∧ w = w' := by
  rw [← turnI_opp]; exact rturn_any _ _ _ (by omega) (by omega) (by omega) (by omega)

set_option maxHeartbeats 1600000 in
set_option maxRecDepth 100000 in
theorem rface_any (B : Option Addr) (nm cm h : Nat) (mate : List Int) (m : Nat → Nat) (w : World) (hm : RI w B nm mate) (hmm : Mates mate nm m) (hp : Perm (ff m) nm) (hh : h < nm) (hN : nm ≤ 256) (x : Int) (hx : x = (h : Nat)) :
    Calls Try.prog 102 #[.slice B nm cm, .int .i64 x] w (CycPost w (itl (ff m) h (per (ff m) nm h))) := by
  subst hx
  have h1 := OI.one w w.heap.size h (Nat.le_refl _)
  have hb1 := below_alloc w (.cells #[.int .i64 (h : Int)] 3)
  obtain ⟨b, off, rfl, hbb, hc⟩ := hm.2 (by omega)
  have HM := Lib.hid hmm
  have HC := Lib.hid hc
  obtain ⟨hmh, hml⟩ := hmm h hh
  have hc0 := (hb1.cell (p := ⟨b, off + h, none⟩) hbb).trans (hc h hh)
  rw [hmh] at hc0
  have HP := Lib.hid hp
  have CT := Lib.hid (rturn_face (m h) (by omega) (w.alloc (.cells #[.int .i64 (h : Int)] 3)))
  have hff : ff m h = trn (m h) 3 := rfl
  rw [← hff] at CT
  have hh0 : (0 : Int) ≤ (h : Int) := Int.natCast_nonneg _
  have hh1 : (h : Int) < (nm : Int) := by omega
  clear hp hmm hc hm hmh hff
  go_enter Try.func102, Try.ntmps102
  go_wp2_with (go_at_call 128; ((with_reducible refine CT.out.mono ?_); rintro e w1 ⟨rfl, rfl⟩))
  go_loopg [5, 6] (per (ff m) nm h - 1) (fun n v g wr => ∃ i : Nat, 0 < i ∧ n + i = per (ff m) nm h ∧ g = .int .i64 (it (ff m) i h : Nat) ∧ Below w.heap.size w wr ∧ OI wr w.heap.size v (itl (ff m) h i))
  case atStart => exact ⟨1, by omega, by have := per_pos (ff m) nm h; omega, rfl, hb1, h1⟩
  case round =>
    obtain ⟨i, hi0, hi, rfl, hbr, hown⟩ := hrel
    have hgl := HP.out.it_lt hh i
    have hpn := (HP.out.per_spec hh).2.1
    have hlen := itl_length (ff m) h i
    obtain ⟨gv, cv, rfl⟩ := hown.form_pos hlen hi0
    by_cases hil : i < per (ff m) nm h
    · have hne : ((it (ff m) i h : Int) != (h : Int)) = true := by
        have := (HP.out.per_spec hh).2.2 i hi0 hil
        simp only [bne_iff_ne, ne_eq]; omega
      have HI := Lib.hid hi
      have hsucc := itl_succ (ff m) h i
      have hil' : (itl (ff m) h i).length ≤ 1000000000 := by omega
      have HIT := Lib.hid (show it (ff m) (i + 1) h = trn (m (it (ff m) i h)) 3 from rfl)
      have HSU := Lib.hid hsucc
      have hle : (i : Int) ≤ (nm : Int) := by omega
      obtain ⟨hmx, hmxl⟩ := HM.out _ hgl
      have HCX := Lib.hid (show w.cell? ⟨b, off + it (ff m) i h, none⟩ = some (.int .i64 (m (it (ff m) i h) : Nat)) from by rw [HC.out _ hgl, hmx])
      clear hi hlen hsucc hmx
      generalize itl (ff m) h i = xs at *
      generalize it (ff m) i h = x at *
      generalize hmxx : m x = y at *
      clear hmxx
      have hx0 : (0 : Int) ≤ (x : Int) := Int.natCast_nonneg _
      have hx1 : (x : Int) < (nm : Int) := by omega
      go_wp2_with (first
        | (at_builtin
           refine wpList_append_int rfl (.tmp 29) (.tmp 31) rfl w.heap.size _ xs rfl (hown.alloc _) wr.heap.size (x : Int) rfl (by rw [World.cell?_alloc_at _ _ _ _ rfl]; rfl) hil' (Nat.le_trans hbr.size (by simp)) ?_
           intro v2 w2 hown2 hg2
           have hb2 : Below w.heap.size w w2 := (below_step hbr (below_alloc wr _)).grown hg2 (Nat.le_trans hbr.size (by simp)) (fun k hk => (World.ownsRow.lt hown k hk).1)
           have hcx := (hb2.cell (p := ⟨b, off + x, none⟩) hbb).trans HCX.out
           have C1 := Lib.hid (rturn_face y (by omega) w2))
        | (go_at_call 128; ((with_reducible refine C1.out.mono ?_); rintro e w3 ⟨rfl, rfl⟩)))
      go_roundg (gk - 1)
      case measure => have := HI.out; omega
      case rel => exact ⟨i + 1, by omega, by have := HI.out; omega, by rw [HIT.out], hb2, by rw [HSU.out]; exact hown2⟩
    · have hip : i = per (ff m) nm h := by omega
      have hret : it (ff m) i h = h := by rw [hip]; exact (HP.out.per_spec hh).1
      rw [hret]
      rw [hip] at hown
      have HF := Lib.hid (show CycPost w (itl (ff m) h (per (ff m) nm h)) (.returned (.slice (some ⟨gv, 0, none⟩) i cv)) wr from ⟨_, rfl, by rw [hip]; exact hown, hbr⟩)
      clear hret hip hil hi hlen hown
      go_wp2
      go_ret
      exact HF.out

theorem sel_true (f : Nat → Nat) (N h : Nat) : sel f N (fun _ => true) h = fst f N h := by simp [sel, fst]
theorem all_itl (f : Nat → Nat) (N h : Nat) : fst f N h = (List.range (per f N h)).all (fun i => decide (h ≤ it f i h)) := by
  unfold fst cyc; rw [List.all_map]; rfl
theorem all_range_succ (p : Nat → Bool) (k : Nat) : (List.range (k + 1)).all p = ((List.range k).all p && p k) := by
  rw [List.range_succ, List.all_append]; simp

set_option maxHeartbeats 1600000 in
set_option maxRecDepth 100000 in
theorem rfaces_any (B : Option Addr) (nm cm : Nat) (mate : List Int) (m : Nat → Nat) (w : World) (hm : RI w B nm mate) (hmm : Mates mate nm m) (hp : Perm (ff m) nm) (hN : nm ≤ 256) :
    Calls Try.prog 59 #[.slice B nm cm] w (CycsPost w (cycL (ff m) nm (fun _ => true) nm)) := by
  have HP := Lib.hid hp
  have HMM := Lib.hid hmm
  clear hp hmm
  go_enter Try.func59, Try.ntmps59
  go_wp2
  go_loopw [3, 4, 5, 6, 7] (fun v i _ _ _ wr => ∃ k : Nat, k ≤ nm ∧ i = .int .i64 k ∧ Below w.heap.size w wr ∧ OO wr w.heap.size v (cycL (ff m) nm (fun _ => true) k)) (fun _ i _ _ _ _ => nm - (intOf i).toNat)
  case atStart => exact ⟨0, by omega, rfl, Below.refl _ _, OO.nil _ _⟩
  case round =>
    obtain ⟨k, hk, rfl, hbr, hown⟩ := hrel
    by_cases hlt : k < nm
    · have CF := Lib.hid (rface_any B nm cm k mate m wr (hm.keep hbr) HMM.out HP.out hlt hN _ rfl)
      have hpn := (HP.out.per_spec hlt).2.1
      have hk0 : (0 : Int) ≤ (k : Int) := Int.natCast_nonneg _
      have hk1 : (k : Int) < (nm : Int) := by omega
      go_wp2_with (go_at_call 102; ((with_reducible refine CF.out.mono ?_); rintro e w2 ⟨vm, rfl, hom, hb2⟩; obtain ⟨gm, cpm, rfl⟩ := hom.form_pos (itl_length (ff m) k (per (ff m) nm k)) (per_pos (ff m) nm k)))
      have hbw2 := below_step hbr hb2
      have hszr := hbr.size
      have hown2 := hown.keep hb2
      clear hown hb2 hbr CF
      go_loop [6, 7] (fun l i => ∃ j : Nat, j ≤ per (ff m) nm k ∧ i = .int .i64 j ∧ l = .bool ((List.range j).all (fun q => decide (k ≤ it (ff m) q k)))) (fun _ i => per (ff m) nm k - (intOf i).toNat)
      case atStart => exact ⟨0, by omega, rfl, rfl⟩
      case round =>
        obtain ⟨j, hj, rfl, rfl⟩ := hrel
        by_cases hjl : j < per (ff m) nm k
        · have hcm : w2.cell? ⟨gm, j, none⟩ = some (.int .i64 (it (ff m) j k : Nat)) := by
            have := hom.cell j (by rw [itl_length]; exact hjl)
            rwa [itl_getD _ _ _ _ hjl] at this
          have HAS := Lib.hid (all_range_succ (fun q => decide (k ≤ it (ff m) q k)) j)
          have hit := HP.out.it_lt hlt j
          generalize it (ff m) j k = x at *
          have hx0 : (0 : Int) ≤ (x : Int) := Int.natCast_nonneg _
          have hj0 : (0 : Int) ≤ (j : Int) := Int.natCast_nonneg _
          have hj1 : (j : Int) < (per (ff m) nm k : Int) := by omega
          generalize hall : (List.range j).all (fun q => decide (k ≤ it (ff m) q k)) = a at *
          clear hall
          cases a with
          | false =>
            go_wp2
            go_round
            case rel => exact ⟨j + 1, by omega, by go_num, by rw [HAS.out]; simp⟩
            case measure => simp [intOf]; omega
          | true =>
            by_cases hkx : k ≤ x
            · have hd : decide (k ≤ x) = true := by simp [hkx]
              have hd' : decide ((k : Int) ≤ (x : Int)) = true := by simp [hkx]
              go_wp2
              go_round
              case rel => exact ⟨j + 1, by omega, by go_num, by rw [HAS.out]; simp [hkx]⟩
              case measure => simp [intOf]; omega
            · have hd : decide (k ≤ x) = false := by simp [hkx]
              have hd' : decide ((k : Int) ≤ (x : Int)) = false := by simp; omega
              go_wp2
              go_round
              case rel => exact ⟨j + 1, by omega, by go_num, by rw [HAS.out]; simp [hkx]⟩
              case measure => simp [intOf]; omega
        · obtain rfl : j = per (ff m) nm k := by omega
          have hcy := cycL_succ (ff m) nm (fun _ => true) k
          rw [sel_true, all_itl] at hcy
          have hlen := cycL_length (ff m) nm (fun _ => true) k
          have hsz := hbw2.size
          have hom' := hom.mono (B' := w.heap.size) hszr
          cases hall : (List.range (per (ff m) nm k)).all (fun q => decide (k ≤ it (ff m) q k)) with
          | false =>
            rw [hall] at hcy
            have hcy' : cycL (ff m) nm (fun _ => true) (k + 1) = cycL (ff m) nm (fun _ => true) k := by rw [hcy]; simp
            have HO := Lib.hid (show OO w2 w.heap.size u3 (cycL (ff m) nm (fun _ => true) (k + 1)) from by rw [hcy']; exact hown2)
            clear hcy hcy' hown2 hall
            go_wp2
            go_roundw
            case rel => exact ⟨k + 1, by omega, by go_num, hbw2, HO.out⟩
            case measure => simp [intOf]; omega
          | true =>
            rw [hall] at hcy
            have HCY := Lib.hid (show cycL (ff m) nm (fun _ => true) (k + 1) = cycL (ff m) nm (fun _ => true) k ++ [itl (ff m) k (per (ff m) nm k)] from by rw [hcy]; simp)
            clear hcy hall
            go_wp2_with (at_builtin
                         refine wpList_append_row rfl (.tmp 33) (.tmp 35) rfl w.heap.size u3 (cycL (ff m) nm (fun _ => true) k) rfl (hown2.keep (below_alloc _ _)) w2.heap.size (.slice (some ⟨gm, 0, none⟩) (per (ff m) nm k) cpm) (itl (ff m) k (per (ff m) nm k)) rfl (by rw [World.cell?_alloc_at _ _ _ _ rfl]; rfl) (hom'.alloc _) (by omega) (Nat.le_trans hsz (by simp)) ?_
                         intro v2 w3 ho2 hg2)
            go_roundw
            case rel => exact ⟨k + 1, by omega, by go_num, (below_step hbw2 (below_alloc w2 _)).grown hg2 (Nat.le_trans hsz (by simp)) (fun q hq => (hown2.lt q hq).1), by rw [HCY.out]; exact ho2⟩
            case measure => simp [intOf]; omega
    · obtain rfl : k = nm := by omega
      clear hlt hk hm
      go_wp2
      go_ret
      exact ⟨_, rfl, hown, hbr⟩

end Go.Proofs.Ytkfjledhnakfoaa

/- Walk of the reference's Label. -/
namespace Go.Proofs.Ytkfjledhnakfoaa
open Go.RowKit

theorem OI.of_arr {w : World} {g n B : Nat} {L : Nat → Nat} (h : Arr w g 3 n (iv L)) (hB : B ≤ g) (hn : n ≤ 1000000) : OI w B (.slice (some ⟨g, 0, none⟩) n n) ((List.range n).map fun i => (L i : Int)) := by
  refine ⟨by simp [ints], .inr ⟨g, n, cellsN n (iv L), by simp, hB, h, by simp, by unfold maxLen; omega, by simp [cellsN], ?_⟩⟩
  simp [cellsN, ints]
  rw [List.take_of_length_le (by simp)]
  rfl

theorem lowStep_same (m l : Nat → Nat) (h : Nat) (e : h / 4 = m h / 4) : lowStep m l h = upd l (m h / 4) (min (l (h / 4)) (l (m h / 4))) := by
  funext i; unfold lowStep upd; rw [e]; split <;> rfl

set_option maxHeartbeats 3200000 in
set_option maxRecDepth 100000 in
theorem label_any (B : Option Addr) (nm cm n : Nat) (mate : List Int) (m : Nat → Nat) (w : World) (hm : RI w B nm mate) (hmm : Mates mate nm m) (hn : nm = 4 * n) (hN : nm ≤ 256) :
    Calls Try.prog 58 #[.slice B nm cm] w (CycPost w ((List.range n).map fun i => (labAt m nm n i : Int))) := by
  have hmk := fun W => make_one (P := Try.prog) Try.underlying22 Try.infoInt rfl n (by omega) (by omega) W
  have hb0 := below_alloc w (.cells (cellsN n fun _ => .int .i64 0) 3)
  have ha0 := Arr.new w n 3 (iv fun _ => 0)
  have HMM := Lib.hid hmm
  have HN := Lib.hid hn
  have hdiv : IntKind.i64.wrap ((nm : Int) / 4) = (n : Int) := by rw [IntWalk.i64_in _ (by omega)]; omega
  have hdiv' : (nm : Int) / 4 = (n : Int) := by omega
  clear hmm hn
  go_enter Try.func58, Try.ntmps58
  go_wp2
  have hz : (cellsN n fun _ => Value.int .i64 0) = cellsN n (iv fun _ => 0) := rfl
  rw [hz] at hb0 ⊢
  generalize w.alloc (.cells (cellsN n (iv fun _ => 0)) 3) = wA at ha0 hb0 ⊢
  clear hz hmk hdiv
  go_loopw [5] (fun i wr => ∃ k : Nat, k ≤ n ∧ i = .int .i64 k ∧ Below w.heap.size w wr ∧ Arr wr w.heap.size 3 n (iv (cutN k fun i => i))) (fun i _ => n - (intOf i).toNat)
  case atStart => exact ⟨0, by omega, rfl, hb0, ha0⟩
  case round =>
    obtain ⟨k, hk, rfl, hbr, har⟩ := hrel
    by_cases hlt : k < n
    · have hcell := har.cell k hlt
      have hfz := har.frozen k
      have hk0 : (0 : Int) ≤ (k : Int) := Int.natCast_nonneg _
      have hk1 : (k : Int) < (n : Int) := by omega
      have HZ := Lib.hid (show Arr (wr.setCell ⟨w.heap.size, k, none⟩ (.int .i64 (k : Nat))) w.heap.size 3 n (iv (cutN (k + 1) fun i => i)) from by have := har.seti k k; rwa [cutN_grow (fun i => i) k] at this)
      clear har ha0
      go_wp2
      go_roundw
      case rel => exact ⟨k + 1, by omega, by go_num, below_set hbr (Nat.le_refl _) _, HZ.out⟩
      case measure => simp [intOf]; omega
    · obtain rfl : k = n := by omega
      have har0 : Arr wr w.heap.size 3 k (iv (labAt m nm 0)) := har.congr fun i hi => by simp [iv, cutN, labAt, hi]
      obtain ⟨wB, hwB⟩ : ∃ wB : World, wB = wr := ⟨_, rfl⟩
      subst hwB
      clear hlt hk har ha0 hb0
      go_wp2
      go_loopw [6, 7, 8, 9, 10] (fun i _ _ _ _ wr => ∃ p : Nat, p ≤ k ∧ i = .int .i64 p ∧ Below w.heap.size w wr ∧ Arr wr w.heap.size 3 k (iv (labAt m nm p))) (fun i _ _ _ _ _ => k - (intOf i).toNat)
      case atStart => exact ⟨0, by omega, rfl, hbr, har0⟩
      case round =>
        obtain ⟨p, hp, rfl, hbp, hap⟩ := hrel
        by_cases hlt : p < k
        · obtain ⟨wC, hwC⟩ : ∃ wC : World, wC = wr := ⟨_, rfl⟩
          subst hwC
          have hap0 : Arr wC w.heap.size 3 k (iv (passAt m (labAt m nm p) 0)) := hap
          clear hap har0
          go_wp2
          go_loopw [7, 8, 9, 10] (fun i _ _ _ wr => ∃ q : Nat, q ≤ nm ∧ i = .int .i64 q ∧ Below w.heap.size w wr ∧ Arr wr w.heap.size 3 k (iv (passAt m (labAt m nm p) q))) (fun i _ _ _ _ => nm - (intOf i).toNat)
          case atStart => exact ⟨0, by omega, rfl, hbp, hap0⟩
          case round =>
            obtain ⟨q, hq, rfl, hbq, haq⟩ := hrel
            by_cases hql : q < nm
            · obtain ⟨b, off, rfl, hbb, hc⟩ := (hm.keep hbq).2 (by omega)
              have hcq := hc q hql
              obtain ⟨hmq, hml⟩ := HMM.out q hql
              rw [hmq] at hcq
              have hq4 : q / 4 < k := by have := HN.out; omega
              have hm4 : m q / 4 < k := by have := HN.out; omega
              have hca := haq.cell (q / 4) hq4
              have hcb := haq.cell (m q / 4) hm4
              have hfa := haq.frozen (q / 4)
              have hfb := haq.frozen (m q / 4)
              have hle1 := pass_le m (labAt m nm p) q (q / 4)
              have hle2 := pass_le m (labAt m nm p) q (m q / 4)
              have hle3 := lab_le m nm p (q / 4)
              have hle4 := lab_le m nm p (m q / 4)
              have hx : passAt m (labAt m nm p) q (q / 4) ≤ 1000 := by omega
              have hy : passAt m (labAt m nm p) q (m q / 4) ≤ 1000 := by omega
              have hstep : Arr ((wr.setCell ⟨w.heap.size, q / 4, none⟩ (.int .i64 (min (passAt m (labAt m nm p) q (q / 4)) (passAt m (labAt m nm p) q (m q / 4)) : Nat))).setCell ⟨w.heap.size, m q / 4, none⟩ (.int .i64 (min (passAt m (labAt m nm p) q (q / 4)) (passAt m (labAt m nm p) q (m q / 4)) : Nat))) w.heap.size 3 k (iv (passAt m (labAt m nm p) (q + 1))) :=
                (haq.seti (q / 4) _).seti (m q / 4) _
              have hcb2 := (haq.seti (q / 4) (min (passAt m (labAt m nm p) q (q / 4)) (passAt m (labAt m nm p) q (m q / 4)))).cell (m q / 4) hm4
              have hfb2 := (haq.seti (q / 4) (min (passAt m (labAt m nm p) q (q / 4)) (passAt m (labAt m nm p) q (m q / 4)))).frozen (m q / 4)
              have hb2 : Below w.heap.size w ((wr.setCell ⟨w.heap.size, q / 4, none⟩ (.int .i64 (min (passAt m (labAt m nm p) q (q / 4)) (passAt m (labAt m nm p) q (m q / 4)) : Nat))).setCell ⟨w.heap.size, m q / 4, none⟩ (.int .i64 (min (passAt m (labAt m nm p) q (q / 4)) (passAt m (labAt m nm p) q (m q / 4)) : Nat))) :=
                below_set (below_set hbq (Nat.le_refl _) _) (Nat.le_refl _) _
              generalize upd (passAt m (labAt m nm p) q) (q / 4) (min (passAt m (labAt m nm p) q (q / 4)) (passAt m (labAt m nm p) q (m q / 4))) (m q / 4) = z at hcb2
              have HZ := Lib.hid hstep
              have HB := Lib.hid hb2
              have H1 := Lib.hid hcb2
              have H2 := Lib.hid hfb2
              clear hstep hb2 hcb2 hfb2 haq hc hmq hle1 hle2 hle3 hle4 hap0
              have hca' : wr.cell? ⟨w.heap.size, q / 4, none⟩ = some (.int .i64 (passAt m (labAt m nm p) q (q / 4) : Nat)) := hca
              have hcb' : wr.cell? ⟨w.heap.size, m q / 4, none⟩ = some (.int .i64 (passAt m (labAt m nm p) q (m q / 4) : Nat)) := hcb
              clear hca hcb
              generalize passAt m (labAt m nm p) q (q / 4) = x at *
              generalize passAt m (labAt m nm p) q (m q / 4) = y at *
              generalize hmx : m q = mq at *
              clear hmx
              have hq0 : (0 : Int) ≤ (q : Int) := Int.natCast_nonneg _
              have hq1 : (q : Int) < (nm : Int) := by omega
              have hm0 : (0 : Int) ≤ (mq : Int) := Int.natCast_nonneg _
              have hx0 : (0 : Int) ≤ (x : Int) := Int.natCast_nonneg _
              have hy0 : (0 : Int) ≤ (y : Int) := Int.natCast_nonneg _
              have hq41 : (q : Int) / 4 < (k : Int) := by omega
              have hm41 : (mq : Int) / 4 < (k : Int) := by omega
              have hq40 : (0 : Int) ≤ (q : Int) / 4 := by omega
              have hm40 : (0 : Int) ≤ (mq : Int) / 4 := by omega
              have hw1 : IntKind.i64.wrap ((q : Int) / 4) = (q : Int) / 4 := IntWalk.i64_in _ (by omega)
              have hw2 : IntKind.i64.wrap ((mq : Int) / 4) = (mq : Int) / 4 := IntWalk.i64_in _ (by omega)
              have hcs : (x < y ∧ min x y = x) ∨ (x = y ∧ min x y = y) ∨ (y < x ∧ min x y = y) := by omega
              have hmn : min x y ≤ 1000 := by omega
              generalize min x y = lo at *
              go_wp2
              go_quiet (fail)
              go_wp2
              obtain ⟨v1, h1⟩ : ∃ v, ∀ N, ((wr.drewN N).setCell ⟨w.heap.size, q / 4, none⟩ (.int .i64 (lo : Nat))).cell? ⟨w.heap.size, mq / 4, none⟩ = some v := ⟨_, fun _ => H1.out⟩
              have h2 : ∀ N, ((wr.drewN N).setCell ⟨w.heap.size, q / 4, none⟩ (.int .i64 (lo : Nat))).frozen? ⟨w.heap.size, mq / 4, none⟩ = false := fun _ => H2.out
              clear H1 H2
              rcases hcs with ⟨hxy, rfl⟩ | ⟨rfl, rfl⟩ | ⟨hxy, rfl⟩
              all_goals
                go_quiet (fail)
                go_wp2
                go_roundw
                case rel => exact ⟨q + 1, by omega, by go_num, below_set (below_set (below_drewN hbq _) (Nat.le_refl _) _) (Nat.le_refl _) _, HZ.out⟩
                case measure => simp [intOf]; omega
            · obtain rfl : q = nm := by omega
              have hap1 : Arr wr w.heap.size 3 k (iv (labAt m q (p + 1))) := haq
              clear haq hql hq hap0
              have hp0 : (0 : Int) ≤ (p : Int) := Int.natCast_nonneg _
              go_wp2
              go_roundw
              case rel => exact ⟨p + 1, by omega, by go_num, hbq, hap1⟩
              case measure => simp [intOf]; omega
        · obtain rfl : p = k := by omega
          have HO := Lib.hid (OI.of_arr hap (Nat.le_refl _) (by have := HN.out; omega))
          clear hlt hp hap har0
          go_wp2
          go_ret
          exact ⟨_, rfl, HO.out, hbp⟩

end Go.Proofs.Ytkfjledhnakfoaa
