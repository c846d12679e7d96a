import Derived.Test.YtambhopkacgddaaE01
import Derived.Test.YtambhopkacgddaaE06
import Derived.Test.YtambhopkacgddaaE03
import Derived.Maps.AppendAt
import Derived.Test.YtambhopkacgddaaE08
import Derived.Test.YtambhopkacgddaaE05
/- Plain mathematics: labels by passes. -/
namespace Go.Proofs.Ytambhopkacgddaa

def lowStep (m : Nat → Nat) (l : Nat → Nat) (h : Nat) : Nat → Nat := upd (upd l (h / 4) (min (l (h / 4)) (l (m h / 4)))) (m h / 4) (min (l (h / 4)) (l (m h / 4)))
def passAt (m : Nat → Nat) (l : Nat → Nat) : Nat → Nat → Nat
  | 0 => l
  | k + 1 => lowStep m (passAt m l k) k
def labAt (m : Nat → Nat) (N : Nat) : Nat → Nat → Nat
  | 0 => fun i => i
  | p + 1 => passAt m (labAt m N p) N

theorem lowStep_le (m l : Nat → Nat) (h i : Nat) : lowStep m l h i ≤ l i := by
  unfold lowStep upd
  by_cases e1 : i = m h / 4
  · subst e1; simp only [if_pos]; omega
  · rw [if_neg e1]
    by_cases e2 : i = h / 4
    · subst e2; simp only [if_pos]; omega
    · rw [if_neg e2]; exact Nat.le_refl _
theorem lowStep_a (m l : Nat → Nat) (h : Nat) : lowStep m l h (h / 4) = min (l (h / 4)) (l (m h / 4)) := by
  unfold lowStep upd; split <;> simp
theorem lowStep_b (m l : Nat → Nat) (h : Nat) : lowStep m l h (m h / 4) = min (l (h / 4)) (l (m h / 4)) := by
  unfold lowStep upd; simp
theorem pass_le (m l : Nat → Nat) (k i : Nat) : passAt m l k i ≤ l i := by
  induction k with
  | zero => exact Nat.le_refl _
  | succ k ih => exact Nat.le_trans (lowStep_le _ _ _ _) ih
theorem pass_edge (m l : Nat → Nat) (k h : Nat) (hh : h < k) : passAt m l k (h / 4) ≤ l (m h / 4) ∧ passAt m l k (m h / 4) ≤ l (h / 4) := by
  induction k with
  | zero => omega
  | succ k ih =>
    show lowStep m (passAt m l k) k _ ≤ _ ∧ lowStep m (passAt m l k) k _ ≤ _
    by_cases e : h = k
    · subst e
      rw [lowStep_a, lowStep_b]
      have h1 := pass_le m l h (h / 4)
      have h2 := pass_le m l h (m h / 4)
      omega
    · obtain ⟨h1, h2⟩ := ih (by omega)
      exact ⟨Nat.le_trans (lowStep_le _ _ _ _) h1, Nat.le_trans (lowStep_le _ _ _ _) h2⟩
theorem pass_conn (m l : Nat → Nat) (N k : Nat) (hk : k ≤ N) (hl : ∀ i, Conn m N i (l i)) (i : Nat) : Conn m N i (passAt m l k i) := by
  induction k generalizing i with
  | zero => exact hl i
  | succ k ih =>
    have h0 := ih (by omega)
    have e : Conn m N (k / 4) (m k / 4) := .step k (by omega) (.refl _)
    show Conn m N i (lowStep m (passAt m l k) k i)
    generalize passAt m l k = p at *
    have hmin : min (p (k / 4)) (p (m k / 4)) = p (k / 4) ∨ min (p (k / 4)) (p (m k / 4)) = p (m k / 4) := by omega
    by_cases e1 : i = m k / 4
    · subst e1; rw [lowStep_b]
      rcases hmin with h | h <;> rw [h]
      · exact e.symm.trans (h0 _)
      · exact h0 _
    · by_cases e2 : i = k / 4
      · subst e2; rw [lowStep_a]
        rcases hmin with h | h <;> rw [h]
        · exact h0 _
        · exact e.trans (h0 _)
      · have : lowStep m p k i = p i := by unfold lowStep upd; rw [if_neg e1, if_neg e2]
        rw [this]; exact h0 i
theorem lab_conn (m : Nat → Nat) (N p i : Nat) : Conn m N i (labAt m N p i) := by
  induction p generalizing i with
  | zero => exact .refl _
  | succ p ih => exact pass_conn m _ N N (Nat.le_refl _) ih i
theorem lab_le (m : Nat → Nat) (N p i : Nat) : labAt m N p i ≤ i := by
  induction p generalizing i with
  | zero => exact Nat.le_refl _
  | succ p ih => exact Nat.le_trans (pass_le _ _ _ _) (ih i)
theorem leaving {m : Nat → Nat} {N : Nat} {P : Nat → Prop} {a b : Nat} (hc : Conn m N a b) (ha : P a) (hb : ¬ P b) : ∃ h, h < N ∧ ((P (h / 4) ∧ ¬ P (m h / 4)) ∨ (P (m h / 4) ∧ ¬ P (h / 4))) := by
  induction hc with
  | refl => exact absurd ha hb
  | step h hh _ ih =>
    rcases Classical.em (P (h / 4)) with hp | hp
    · exact ⟨h, hh, .inl ⟨hp, hb⟩⟩
    · exact ih hp
  | back h hh _ ih =>
    rcases Classical.em (P (m h / 4)) with hp | hp
    · exact ⟨h, hh, .inr ⟨hp, hb⟩⟩
    · exact ih hp

theorem countP_lt {p q : Nat → Bool} {n : Nat} (h : ∀ i, i < n → p i = true → q i = true) (j : Nat) (hj : j < n) (h1 : p j = false) (h2 : q j = true) : (List.range n).countP p + 1 ≤ (List.range n).countP q := by
  induction n with
  | zero => omega
  | succ n ih =>
    rw [List.range_succ, List.countP_append, List.countP_append]
    simp only [List.countP_cons, List.countP_nil]
    by_cases e : j = n
    · subst e
      have hle : (List.range j).countP p ≤ (List.range j).countP q := List.countP_mono_left (by
        intro x hx hp; exact h x (by have := List.mem_range.1 hx; omega) hp)
      rw [h1, h2]; simp; omega
    · have := ih (fun i hi => h i (by omega)) (by omega)
      have h3 := h n (by omega)
      cases hp : p n with
      | false => simp; omega
      | true => rw [h3 hp]; simp; omega

/-- n passes are enough. -/
theorem labAt_eq {m : Nat → Nat} {N n : Nat} {F : Nat → Nat} (hN : N = 4 * n) (hm : ∀ h, h < N → m h < N) (hF : IsLab m N n F) (c : Nat) (hc : c < n) : labAt m N n c = F c := by
  have key : ∀ p, (∀ x, x < n → F x = F c → labAt m N p x = F c) ∨ p + 1 ≤ (List.range n).countP (fun x => labAt m N p x == F c) := by
    have hge : ∀ p x, x < n → F x = F c → F c ≤ labAt m N p x := fun p x hx e => by
      have h1 := hF.conn (lab_conn m N p x)
      have h2 := lab_le m N p x
      have h3 := (hF.1 (labAt m N p x) (by omega)).1
      omega
    have hFc := hF.1 c hc
    have hFF : F (F c) = F c := (hF.conn hFc.2).symm
    intro p
    induction p with
    | zero =>
      right
      have h0 : (List.range n).countP (fun _ => false) = 0 := by simp
      have := countP_lt (p := fun _ => false) (q := fun x => labAt m N 0 x == F c) (n := n) (fun _ _ h => by cases h) (F c) (by omega) rfl (by simp [labAt])
      omega
    | succ p ih =>
      rcases ih with ih | ih
      · left
        intro x hx e
        have h1 := pass_le m (labAt m N p) N x
        have h2 := hge (p + 1) x hx e
        have h3 := ih x hx e
        show passAt m (labAt m N p) N x = F c
        have h4 : F c ≤ passAt m (labAt m N p) N x := h2
        omega
      · by_cases hall : ∀ x, x < n → F x = F c → labAt m N p x = F c
        · left
          intro x hx e
          have h1 := pass_le m (labAt m N p) N x
          have h4 : F c ≤ passAt m (labAt m N p) N x := hge (p + 1) x hx e
          have h3 := hall x hx e
          show passAt m (labAt m N p) N x = F c
          omega
        · right
          have hmono : ∀ i, i < n → (labAt m N p i == F c) = true → (labAt m N (p + 1) i == F c) = true := fun i hi e => by
            have e' : labAt m N p i = F c := by simpa using e
            have hfi : F i = F c := by rw [hF.conn (lab_conn m N p i), e', hFF]
            have h1 := pass_le m (labAt m N p) N i
            have h4 : F c ≤ passAt m (labAt m N p) N i := hge (p + 1) i hi hfi
            have h5 : labAt m N (p + 1) i = F c := by show passAt m (labAt m N p) N i = F c; omega
            rw [h5]; simp
          have hex : ∃ x, x < n ∧ F x = F c ∧ labAt m N p x ≠ F c := Classical.byContradiction fun h => hall fun x hx e => Classical.byContradiction fun h' => h ⟨x, hx, e, h'⟩
          obtain ⟨x, hx, e, hne⟩ := hex
          have hcr : Conn m N (F c) x := by
            have h1 := (hF.1 x hx).2
            rw [e] at h1; exact h1.symm
          have hr : labAt m N p (F c) = F c := by
            have h1 := lab_le m N p (F c)
            have h2 := hge p (F c) (by omega) hFF
            omega
          obtain ⟨h, hh, hcase⟩ := leaving (P := fun y => labAt m N p y = F c) hcr hr hne
          have hmh := hm h hh
          have hp := pass_edge m (labAt m N p) N h hh
          have hv : ∃ v, v < n ∧ labAt m N p v ≠ F c ∧ labAt m N (p + 1) v = F c := by
            rcases hcase with ⟨h1, h2⟩ | ⟨h1, h2⟩
            · refine ⟨m h / 4, by omega, h2, ?_⟩
              have hf1 : F (h / 4) = F c := by rw [hF.conn (lab_conn m N p (h / 4)), h1, hFF]
              have hf2 : F (m h / 4) = F c := by rw [← hF.2 h hh, hf1]
              have h4 : F c ≤ passAt m (labAt m N p) N (m h / 4) := hge (p + 1) _ (by omega) hf2
              show passAt m (labAt m N p) N (m h / 4) = F c
              omega
            · refine ⟨h / 4, by omega, h2, ?_⟩
              have hf1 : F (m h / 4) = F c := by rw [hF.conn (lab_conn m N p (m h / 4)), h1, hFF]
              have hf2 : F (h / 4) = F c := by rw [hF.2 h hh, hf1]
              have h4 : F c ≤ passAt m (labAt m N p) N (h / 4) := hge (p + 1) _ (by omega) hf2
              show passAt m (labAt m N p) N (h / 4) = F c
              omega
          obtain ⟨v, hv1, hv2, hv3⟩ := hv
          have := countP_lt hmono v hv1 (by simpa using hv2) (by simpa using hv3)
          omega
  rcases key n with h | h
  · exact h c hc rfl
  · have : (List.range n).countP (fun x => labAt m N n x == F c) ≤ n := Nat.le_trans List.countP_le_length (by simp)
    omega

end Go.Proofs.Ytambhopkacgddaa

/- Walks of the reference: Face, Faces. -/
namespace Go.Proofs.Ytambhopkacgddaa
open Go.RowKit

theorem rturn_face (x : Nat) (hx : x ≤ 1000000) (w : World) : Calls Try.prog 59 #[.int .i64 (x : Int), .int .i64 (-1)] w fun e w' => e = .returned (.int .i64 (trn x 3 : Nat)) ∧ w = w' := by
  rw [← turnI_face]; exact rturn_any _ _ _ (by omega) (by omega) (by omega) (by omega)
theorem rturn_opp (x : Nat) (hx : x ≤ 1000000) (w : World) : Calls Try.prog 59 #[.int .i64 (x : Int), .int .i64 2] w fun e w' => e = .returned (.int .i64 (trn x 2 : Nat)) ∧ w = w' := by
  rw [← turnI_opp]; exact rturn_any _ _ _ (by omega) (by omega) (by omega) (by omega)

set_option maxHeartbeats 1600000 in
set_option maxRecDepth 100000 in
theorem rface_any (B : Option Addr) (nm cm h : Nat) (mate : List Int) (m : Nat → Nat) (w : World) (hm : RI w B nm mate) (hmm : Mates mate nm m) (hp : Perm (ff m) nm) (hh : h < nm) (hN : nm ≤ 256) (x : Int) (hx : x = (h : Nat)) :
    Calls Try.prog 48 #[.slice B nm cm, .int .i64 x] w (CycPost w (itl (ff m) h (per (ff m) nm h))) := by
  subst hx
  have h1 := OI.one w w.heap.size h (Nat.le_refl _)
  have hb1 := below_alloc w (.cells #[.int .i64 (h : Int)] 3)
  obtain ⟨b, off, rfl, hbb, hc⟩ := hm.2 (by omega)
  have HM := Lib.hid hmm
  have HC := Lib.hid hc
  obtain ⟨hmh, hml⟩ := hmm h hh
  have hc0 := (hb1.cell (p := ⟨b, off + h, none⟩) hbb).trans (hc h hh)
  rw [hmh] at hc0
  have HP := Lib.hid hp
  have CT := Lib.hid (rturn_face (m h) (by omega) (w.alloc (.cells #[.int .i64 (h : Int)] 3)))
  have hff : ff m h = trn (m h) 3 := rfl
  rw [← hff] at CT
  have hh0 : (0 : Int) ≤ (h : Int) := Int.natCast_nonneg _
  have hh1 : (h : Int) < (nm : Int) := by omega
  clear hp hmm hc hm hmh hff
  go_enter Try.func48, Try.ntmps48
  go_wp2_with (go_at_call 59; ((with_reducible refine CT.out.mono ?_); rintro e w1 ⟨rfl, rfl⟩))
  go_loopg [5, 6] (per (ff m) nm h - 1) (fun n v g wr => ∃ i : Nat, 0 < i ∧ n + i = per (ff m) nm h ∧ g = .int .i64 (it (ff m) i h : Nat) ∧ Below w.heap.size w wr ∧ OI wr w.heap.size v (itl (ff m) h i))
  case atStart => exact ⟨1, by omega, by have := per_pos (ff m) nm h; omega, rfl, hb1, h1⟩
  case round =>
    obtain ⟨i, hi0, hi, rfl, hbr, hown⟩ := hrel
    have hgl := HP.out.it_lt hh i
    have hpn := (HP.out.per_spec hh).2.1
    have hlen := itl_length (ff m) h i
    obtain ⟨gv, cv, rfl⟩ := hown.form_pos hlen hi0
    by_cases hil : i < per (ff m) nm h
    · have hne : ((it (ff m) i h : Int) != (h : Int)) = true := by
        have := (HP.out.per_spec hh).2.2 i hi0 hil
        simp only [bne_iff_ne, ne_eq]; omega
      have HI := Lib.hid hi
      have hsucc := itl_succ (ff m) h i
      have hil' : (itl (ff m) h i).length ≤ 1000000000 := by omega
      have HIT := Lib.hid (show it (ff m) (i + 1) h = trn (m (it (ff m) i h)) 3 from rfl)
      have HSU := Lib.hid hsucc
      have hle : (i : Int) ≤ (nm : Int) := by omega
      obtain ⟨hmx, hmxl⟩ := HM.out _ hgl
      have HCX := Lib.hid (show w.cell? ⟨b, off + it (ff m) i h, none⟩ = some (.int .i64 (m (it (ff m) i h) : Nat)) from by rw [HC.out _ hgl, hmx])
      clear hi hlen hsucc hmx
      generalize itl (ff m) h i = xs at *
      generalize it (ff m) i h = x at *
      generalize hmxx : m x = y at *
      clear hmxx
      have hx0 : (0 : Int) ≤ (x : Int) := Int.natCast_nonneg _
      have hx1 : (x : Int) < (nm : Int) := by omega
      go_wp2_with (first
        | (at_builtin
           refine wpList_append_int rfl (.tmp 29) (.tmp 31) rfl w.heap.size _ xs rfl (hown.alloc _) wr.heap.size (x : Int) rfl (by rw [World.cell?_alloc_at _ _ _ _ rfl]; rfl) hil' (Nat.le_trans hbr.size (by simp)) ?_
           intro v2 w2 hown2 hg2
           have hb2 : Below w.heap.size w w2 := (below_step hbr (below_alloc wr _)).grown hg2 (Nat.le_trans hbr.size (by simp)) (fun k hk => (World.ownsRow.lt hown k hk).1)
           have hcx := (hb2.cell (p := ⟨b, off + x, none⟩) hbb).trans HCX.out
           have C1 := Lib.hid (rturn_face y (by omega) w2))
        | (go_at_call 59; ((with_reducible refine C1.out.mono ?_); rintro e w3 ⟨rfl, rfl⟩)))
      go_roundg (gk - 1)
      case measure => have := HI.out; omega
      case rel => exact ⟨i + 1, by omega, by have := HI.out; omega, by rw [HIT.out], hb2, by rw [HSU.out]; exact hown2⟩
    · have hip : i = per (ff m) nm h := by omega
      have hret : it (ff m) i h = h := by rw [hip]; exact (HP.out.per_spec hh).1
      rw [hret]
      rw [hip] at hown
      have HF := Lib.hid (show CycPost w (itl (ff m) h (per (ff m) nm h)) (.returned (.slice (some ⟨gv, 0, none⟩) i cv)) wr from ⟨_, rfl, by rw [hip]; exact hown, hbr⟩)
      clear hret hip hil hi hlen hown
      go_wp2
      go_ret
      exact HF.out

theorem sel_true (f : Nat → Nat) (N h : Nat) : sel f N (fun _ => true) h = fst f N h := by simp [sel, fst]
theorem all_itl (f : Nat → Nat) (N h : Nat) : fst f N h = (List.range (per f N h)).all (fun i => decide (h ≤ it f i h)) := by
  unfold fst cyc; rw [List.all_map]; rfl
theorem all_range_succ (p : Nat → Bool) (k : Nat) : (List.range (k + 1)).all p = ((List.range k).all p && p k) := by
  rw [List.range_succ, List.all_append]; simp

set_option maxHeartbeats 1600000 in
set_option maxRecDepth 100000 in
theorem rfaces_any (B : Option Addr) (nm cm : Nat) (mate : List Int) (m : Nat → Nat) (w : World) (hm : RI w B nm mate) (hmm : Mates mate nm m) (hp : Perm (ff m) nm) (hN : nm ≤ 256) :
    Calls Try.prog 32 #[.slice B nm cm] w (CycsPost w (cycL (ff m) nm (fun _ => true) nm)) := by
  have HP := Lib.hid hp
  have HMM := Lib.hid hmm
  clear hp hmm
  go_enter Try.func32, Try.ntmps32
  go_wp2
  go_loopw [3, 4, 5, 6, 7] (fun v i _ _ _ wr => ∃ k : Nat, k ≤ nm ∧ i = .int .i64 k ∧ Below w.heap.size w wr ∧ OO wr w.heap.size v (cycL (ff m) nm (fun _ => true) k)) (fun _ i _ _ _ _ => nm - (intOf i).toNat)
  case atStart => exact ⟨0, by omega, rfl, Below.refl _ _, OO.nil _ _⟩
  case round =>
    obtain ⟨k, hk, rfl, hbr, hown⟩ := hrel
    by_cases hlt : k < nm
    · have CF := Lib.hid (rface_any B nm cm k mate m wr (hm.keep hbr) HMM.out HP.out hlt hN _ rfl)
      have hpn := (HP.out.per_spec hlt).2.1
      have hk0 : (0 : Int) ≤ (k : Int) := Int.natCast_nonneg _
      have hk1 : (k : Int) < (nm : Int) := by omega
      go_wp2_with (go_at_call 48; ((with_reducible refine CF.out.mono ?_); rintro e w2 ⟨vm, rfl, hom, hb2⟩; obtain ⟨gm, cpm, rfl⟩ := hom.form_pos (itl_length (ff m) k (per (ff m) nm k)) (per_pos (ff m) nm k)))
      have hbw2 := below_step hbr hb2
      have hszr := hbr.size
      have hown2 := hown.keep hb2
      clear hown hb2 hbr CF
      go_loop [6, 7] (fun l i => ∃ j : Nat, j ≤ per (ff m) nm k ∧ i = .int .i64 j ∧ l = .bool ((List.range j).all (fun q => decide (k ≤ it (ff m) q k)))) (fun _ i => per (ff m) nm k - (intOf i).toNat)
      case atStart => exact ⟨0, by omega, rfl, rfl⟩
      case round =>
        obtain ⟨j, hj, rfl, rfl⟩ := hrel
        by_cases hjl : j < per (ff m) nm k
        · have hcm : w2.cell? ⟨gm, j, none⟩ = some (.int .i64 (it (ff m) j k : Nat)) := by
            have := hom.cell j (by rw [itl_length]; exact hjl)
            rwa [itl_getD _ _ _ _ hjl] at this
          have HAS := Lib.hid (all_range_succ (fun q => decide (k ≤ it (ff m) q k)) j)
          have hit := HP.out.it_lt hlt j
          generalize it (ff m) j k = x at *
          have hx0 : (0 : Int) ≤ (x : Int) := Int.natCast_nonneg _
          have hj0 : (0 : Int) ≤ (j : Int) := Int.natCast_nonneg _
          have hj1 : (j : Int) < (per (ff m) nm k : Int) := by omega
          generalize hall : (List.range j).all (fun q => decide (k ≤ it (ff m) q k)) = a at *
          clear hall
          cases a with
          | false =>
            go_wp2
            go_round
            case rel => exact ⟨j + 1, by omega, by go_num, by rw [HAS.out]; simp⟩
            case measure => simp [intOf]; omega
          | true =>
            by_cases hkx : k ≤ x
            · have hd : decide (k ≤ x) = true := by simp [hkx]
              have hd' : decide ((k : Int) ≤ (x : Int)) = true := by simp [hkx]
              go_wp2
              go_round
              case rel => exact ⟨j + 1, by omega, by go_num, by rw [HAS.out]; simp [hkx]⟩
              case measure => simp [intOf]; omega
            · have hd : decide (k ≤ x) = false := by simp [hkx]
              have hd' : decide ((k : Int) ≤ (x : Int)) = false := by simp; omega
              go_wp2
              go_round
              case rel => exact ⟨j + 1, by omega, by go_num, by rw [HAS.out]; simp [hkx]⟩
              case measure => simp [intOf]; omega
        · obtain rfl : j = per (ff m) nm k := by omega
          have hcy := cycL_succ (ff m) nm (fun _ => true) k
          rw [sel_true, all_itl] at hcy
          have hlen := cycL_length (ff m) nm (fun _ => true) k
          have hsz := hbw2.size
          have hom' := hom.mono (B' := w.heap.size) hszr
          cases hall : (List.range (per (ff m) nm k)).all (fun q => decide (k ≤ it (ff m) q k)) with
          | false =>
            rw [hall] at hcy
            have hcy' : cycL (ff m) nm (fun _ => true) (k + 1) = cycL (ff m) nm (fun _ => true) k := by rw [hcy]; simp
            have HO := Lib.hid (show OO w2 w.heap.size u3 (cycL (ff m) nm (fun _ => true) (k + 1)) from by rw [hcy']; exact hown2)
            clear hcy hcy' hown2 hall
            go_wp2
            go_roundw
            case rel => exact ⟨k + 1, by omega, by go_num, hbw2, HO.out⟩
            case measure => simp [intOf]; omega
          | true =>
            rw [hall] at hcy
            have HCY := Lib.hid (show cycL (ff m) nm (fun _ => true) (k + 1) = cycL (ff m) nm (fun _ => true) k ++ [itl (ff m) k (per (ff m) nm k)] from by rw [hcy]; simp)
            clear hcy hall
            go_wp2_with (at_builtin
                         refine wpList_append_row rfl (.tmp 33) (.tmp 35) rfl w.heap.size u3 (cycL (ff m) nm (fun _ => true) k) rfl (hown2.keep (below_alloc _ _)) w2.heap.size (.slice (some ⟨gm, 0, none⟩) (per (ff m) nm k) cpm) (itl (ff m) k (per (ff m) nm k)) rfl (by rw [World.cell?_alloc_at _ _ _ _ rfl]; rfl) (hom'.alloc _) (by omega) (Nat.le_trans hsz (by simp)) ?_
                         intro v2 w3 ho2 hg2)
            go_roundw
            case rel => exact ⟨k + 1, by omega, by go_num, (below_step hbw2 (below_alloc w2 _)).grown hg2 (Nat.le_trans hsz (by simp)) (fun q hq => (hown2.lt q hq).1), by rw [HCY.out]; exact ho2⟩
            case measure => simp [intOf]; omega
    · obtain rfl : k = nm := by omega
      clear hlt hk hm
      go_wp2
      go_ret
      exact ⟨_, rfl, hown, hbr⟩

end Go.Proofs.Ytambhopkacgddaa

/- Walks of the reference: Strand, Strands, Graph, Components. -/
namespace Go.Proofs.Ytambhopkacgddaa
open Go.RowKit

set_option maxHeartbeats 1600000 in
set_option maxRecDepth 100000 in
theorem rstrand_any (A B : Option Addr) (ns cs nm cm : Nat) (lp : Int) (h : Nat) (mate : List Int) (m : Nat → Nat) (w : World) (hm : RI w B nm mate) (hmm : Mates mate nm m) (hp : Perm (fs m) nm) (hh : h < nm) (hN : nm ≤ 256) (x : Int) (hx : x = (h : Nat)) :
    Calls Try.prog 49 #[dval A ns cs B nm cm lp, .int .i64 x] w (CycPost w (itl (fs m) h (per (fs m) nm h))) := by
  subst hx
  have hbx := below_alloc w (dbox A ns cs B nm cm lp)
  have h1 := (OI.one (w.alloc (dbox A ns cs B nm cm lp)) (w.alloc (dbox A ns cs B nm cm lp)).heap.size h (Nat.le_refl _)).mono (Nat.le_refl (w.alloc (dbox A ns cs B nm cm lp)).heap.size)
  have hb1 := below_step hbx (below_alloc (w.alloc (dbox A ns cs B nm cm lp)) (.cells #[.int .i64 (h : Int)] 3))
  have hdb := (DB.new w A ns cs B nm cm lp).keep (below_alloc _ (.cells #[.int .i64 (h : Int)] 3))
  have hszx : (w.alloc (dbox A ns cs B nm cm lp)).heap.size = w.heap.size + 1 := by simp
  rw [hszx] at h1
  clear hszx
  obtain ⟨b, off, rfl, hbb, hc⟩ := hm.2 (by omega)
  have HM := Lib.hid hmm
  have HC := Lib.hid hc
  obtain ⟨hmh, hml⟩ := hmm h hh
  have hc0 := (hb1.cell (p := ⟨b, off + h, none⟩) hbb).trans (hc h hh)
  rw [hmh] at hc0
  have HP := Lib.hid hp
  have CT := Lib.hid (rturn_opp (m h) (by omega) ((w.alloc (dbox A ns cs (some ⟨b, off, none⟩) nm cm lp)).alloc (.cells #[.int .i64 (h : Int)] 3)))
  obtain ⟨x0, x1, x2, xlt⟩ := hdb
  have hxlt : w.heap.size < w.heap.size + 1 := by omega
  have hfs : fs m h = trn (m h) 2 := rfl
  rw [← hfs] at CT
  have hh0 : (0 : Int) ≤ (h : Int) := Int.natCast_nonneg _
  have hh1 : (h : Int) < (nm : Int) := by omega
  clear hp hmm hc hm hmh hfs hbx
  go_enter Try.func49, Try.ntmps49
  go_wp2_with (go_at_call 59; ((with_reducible refine CT.out.mono ?_); rintro e w1 ⟨rfl, rfl⟩))
  generalize hwA : (w.alloc (dbox A ns cs (some ⟨b, off, none⟩) nm cm lp)).alloc (.cells #[.int .i64 (h : Int)] 3) = wA at h1 hb1 x0 x1 x2 xlt hc0 ⊢
  clear hwA
  go_loopg [5, 6] (per (fs m) nm h - 1) (fun n v g wr => ∃ i : Nat, 0 < i ∧ n + i = per (fs m) nm h ∧ g = .int .i64 (it (fs m) i h : Nat) ∧ Below (w.heap.size + 1) wA wr ∧ OI wr (w.heap.size + 1) v (itl (fs m) h i))
  case atStart => exact ⟨1, by omega, by have := per_pos (fs m) nm h; omega, rfl, Below.refl _ _, h1⟩
  case round =>
    obtain ⟨i, hi0, hi, rfl, hbr, hown⟩ := hrel
    have y1 := (hbr.cell (p := ⟨w.heap.size, 1, none⟩) hxlt).trans x1
    have hszr := hbr.size
    have hgl := HP.out.it_lt hh i
    have hpn := (HP.out.per_spec hh).2.1
    have hlen := itl_length (fs m) h i
    obtain ⟨gv, cv, rfl⟩ := hown.form_pos hlen hi0
    by_cases hil : i < per (fs m) nm h
    · have hne : ((it (fs m) i h : Int) != (h : Int)) = true := by
        have := (HP.out.per_spec hh).2.2 i hi0 hil
        simp only [bne_iff_ne, ne_eq]; omega
      have HI := Lib.hid hi
      have hsucc := itl_succ (fs m) h i
      have hil' : (itl (fs m) h i).length ≤ 1000000000 := by omega
      have HIT := Lib.hid (show it (fs m) (i + 1) h = trn (m (it (fs m) i h)) 2 from rfl)
      have HSU := Lib.hid hsucc
      have hle : (i : Int) ≤ (nm : Int) := by omega
      obtain ⟨hmx, hmxl⟩ := HM.out _ hgl
      have HCX := Lib.hid (show wA.cell? ⟨b, off + it (fs m) i h, none⟩ = some (.int .i64 (m (it (fs m) i h) : Nat)) from by rw [← hmx, ← HC.out _ hgl]; exact hb1.cell (p := ⟨b, off + it (fs m) i h, none⟩) hbb)
      clear hi hlen hsucc hmx
      generalize itl (fs m) h i = xs at *
      generalize it (fs m) i h = x at *
      generalize hmxx : m x = y at *
      clear hmxx
      have hx0 : (0 : Int) ≤ (x : Int) := Int.natCast_nonneg _
      have hx1 : (x : Int) < (nm : Int) := by omega
      go_wp2_with (first
        | (at_builtin
           refine wpList_append_int rfl (.tmp 32) (.tmp 34) rfl (w.heap.size + 1) _ xs rfl (hown.alloc _) wr.heap.size (x : Int) rfl (by rw [World.cell?_alloc_at _ _ _ _ rfl]; rfl) hil' (by simp; omega) ?_
           intro v2 w2 hown2 hg2
           have hb2 : Below (w.heap.size + 1) wA w2 := (hbr.alloc (by omega) _).grown hg2 (by simp; omega) (fun k hk => (World.ownsRow.lt hown k hk).1)
           have y2 := (hb2.cell (p := ⟨w.heap.size, 1, none⟩) hxlt).trans x1
           have hcx := (hb2.cell (p := ⟨b, off + x, none⟩) (by show b < w.heap.size + 1; omega)).trans HCX.out
           have C1 := Lib.hid (rturn_opp y (by omega) w2))
        | (go_at_call 59; ((with_reducible refine C1.out.mono ?_); rintro e w3 ⟨rfl, rfl⟩)))
      go_roundg (gk - 1)
      case measure => have := HI.out; omega
      case rel => exact ⟨i + 1, by omega, by have := HI.out; omega, by rw [HIT.out], hb2, by rw [HSU.out]; exact hown2⟩
    · have hip : i = per (fs m) nm h := by omega
      have hret : it (fs m) i h = h := by rw [hip]; exact (HP.out.per_spec hh).1
      rw [hret]
      rw [hip] at hown
      have HF := Lib.hid (show CycPost w (itl (fs m) h (per (fs m) nm h)) (.returned (.slice (some ⟨gv, 0, none⟩) i cv)) wr from ⟨_, rfl, by rw [hip]; exact hown.mono (Nat.le_succ _), hb1.trans (hbr.mono (Nat.le_succ _))⟩)
      clear hret hip hil hi hlen hown
      go_wp2
      go_ret
      exact HF.out

set_option maxHeartbeats 1600000 in
set_option maxRecDepth 100000 in
theorem rstrands_any (A B : Option Addr) (ns cs nm cm : Nat) (lp : Int) (signs mate : List Int) (m : Nat → Nat) (w : World) (hs : RI w A ns signs) (hnm : nm = 4 * ns) (hm : RI w B nm mate) (hmm : Mates mate nm m) (hp : Perm (fs m) nm) (hN : nm ≤ 256) (hout : ∀ h, h < nm → outB signs h = true → outB signs (fs m h) = true) :
    Calls Try.prog 33 #[dval A ns cs B nm cm lp] w (CycsPost w (cycL (fs m) nm (outB signs) nm)) := by
  have HP := Lib.hid hp
  have HMM := Lib.hid hmm
  have HNM := Lib.hid hnm
  have hbx := below_alloc w (dbox A ns cs B nm cm lp)
  obtain ⟨x0, x1, x2, xlt⟩ := DB.new w A ns cs B nm cm lp
  have hszA : (w.alloc (dbox A ns cs B nm cm lp)).heap.size = w.heap.size + 1 := by simp
  have hsel : ∀ k, k < nm → outB signs k = true → sel (fs m) nm (outB signs) k = (List.range (per (fs m) nm k)).all (fun q => decide (k ≤ it (fs m) q k)) := fun k hk ho => by
    have hito : ∀ i, outB signs (it (fs m) i k) = true := fun i => by
      induction i with
      | zero => exact ho
      | succ i ih => exact hout _ (hp.it_lt hk i) ih
    unfold sel cyc
    rw [ho, Bool.true_and, List.all_map]
    congr 1
    funext i
    simp [hito i]
  have hsel0 : ∀ k, outB signs k = false → sel (fs m) nm (outB signs) k = false := fun k h => by simp [sel, h]
  have HSEL := Lib.hid hsel
  have HSEL0 := Lib.hid hsel0
  clear hp hmm hnm hsel hsel0 hout
  go_enter Try.func33, Try.ntmps33
  go_wp2
  generalize hwA : w.alloc (dbox A ns cs B nm cm lp) = wA at hbx x0 x1 x2 xlt hszA ⊢
  clear hwA
  have hxlt : w.heap.size < w.heap.size + 1 := by omega
  go_loopw [3, 4, 5, 6, 7] (fun v i _ _ _ wr => ∃ k : Nat, k ≤ nm ∧ i = .int .i64 k ∧ Below (w.heap.size + 1) wA wr ∧ OO wr (w.heap.size + 1) v (cycL (fs m) nm (outB signs) k)) (fun _ i _ _ _ _ => nm - (intOf i).toNat)
  case atStart => exact ⟨0, by omega, rfl, Below.refl _ _, OO.nil _ _⟩
  case round =>
    obtain ⟨k, hk, rfl, hbr, hown⟩ := hrel
    have hszr := hbr.size
    have hbW : Below w.heap.size w wr := hbx.trans (hbr.mono (Nat.le_succ _))
    have y0 := (hbr.cell (p := ⟨w.heap.size, 0, none⟩) hxlt).trans x0
    have y1 := (hbr.cell (p := ⟨w.heap.size, 1, none⟩) hxlt).trans x1
    have y2 := (hbr.cell (p := ⟨w.heap.size, 2, none⟩) hxlt).trans x2
    by_cases hlt : k < nm
    · have CF := Lib.hid (rstrand_any A B ns cs nm cm lp k mate m wr (hm.keep hbW) HMM.out HP.out hlt hN _ rfl)
      have CO := Lib.hid (rout_any A ns cs signs k wr (hs.keep hbW) (by have := HNM.out; omega) (by have := HNM.out; omega))
      have hpn := (HP.out.per_spec hlt).2.1
      have hk0 : (0 : Int) ≤ (k : Int) := Int.natCast_nonneg _
      have hk1 : (k : Int) < (nm : Int) := by omega
      cases ho : outB signs k with
      | false =>
       rw [ho] at CO
       have hcy := cycL_succ (fs m) nm (outB signs) k
       rw [HSEL0.out k ho] at hcy
       have HO := Lib.hid (show OO wr (w.heap.size + 1) u3 (cycL (fs m) nm (outB signs) (k + 1)) from by rw [hcy]; simpa using hown)
       clear hcy hown ho
       go_wp2_with (go_at_call 30; ((with_reducible refine CO.out.mono ?_); rintro e w' ⟨rfl, rfl⟩))
       go_roundw
       case rel => exact ⟨k + 1, by omega, by go_num, hbr, HO.out⟩
       case measure => simp [intOf]; omega
      | true =>
        rw [ho] at CO
        go_wp2_with (first
         | (go_at_call 30; ((with_reducible refine CO.out.mono ?_); rintro e w' ⟨rfl, rfl⟩))
         | (go_at_call 49; ((with_reducible refine CF.out.mono ?_); rintro e w2 ⟨vm, rfl, hom, hb2⟩; obtain ⟨gm, cpm, rfl⟩ := hom.form_pos (itl_length (fs m) k (per (fs m) nm k)) (per_pos (fs m) nm k))))
        have hbw2 : Below (w.heap.size + 1) wA w2 := hbr.trans (hb2.mono (by omega))
        have hown2 := hown.keep hb2
        clear hown hb2 hbr CF CO hbW y0 y1 y2
        go_loop [6, 7] (fun l i => ∃ j : Nat, j ≤ per (fs m) nm k ∧ i = .int .i64 j ∧ l = .bool ((List.range j).all (fun q => decide (k ≤ it (fs m) q k)))) (fun _ i => per (fs m) nm k - (intOf i).toNat)
        case atStart => exact ⟨0, by omega, rfl, rfl⟩
        case round =>
          obtain ⟨j, hj, rfl, rfl⟩ := hrel
          by_cases hjl : j < per (fs m) nm k
          · have hcm : w2.cell? ⟨gm, j, none⟩ = some (.int .i64 (it (fs m) j k : Nat)) := by
              have := hom.cell j (by rw [itl_length]; exact hjl)
              rwa [itl_getD _ _ _ _ hjl] at this
            have HAS := Lib.hid (all_range_succ (fun q => decide (k ≤ it (fs m) q k)) j)
            have hit := HP.out.it_lt hlt j
            generalize it (fs m) j k = x at *
            have hx0 : (0 : Int) ≤ (x : Int) := Int.natCast_nonneg _
            have hj0 : (0 : Int) ≤ (j : Int) := Int.natCast_nonneg _
            have hj1 : (j : Int) < (per (fs m) nm k : Int) := by omega
            generalize hall : (List.range j).all (fun q => decide (k ≤ it (fs m) q k)) = a at *
            clear hall
            cases a with
            | false =>
              go_wp2
              go_round
              case rel => exact ⟨j + 1, by omega, by go_num, by rw [HAS.out]; simp⟩
              case measure => simp [intOf]; omega
            | true =>
              by_cases hkx : k ≤ x
              · have hd : decide (k ≤ x) = true := by simp [hkx]
                have hd' : decide ((k : Int) ≤ (x : Int)) = true := by simp [hkx]
                go_wp2
                go_round
                case rel => exact ⟨j + 1, by omega, by go_num, by rw [HAS.out]; simp [hkx]⟩
                case measure => simp [intOf]; omega
              · have hd : decide (k ≤ x) = false := by simp [hkx]
                have hd' : decide ((k : Int) ≤ (x : Int)) = false := by simp; omega
                go_wp2
                go_round
                case rel => exact ⟨j + 1, by omega, by go_num, by rw [HAS.out]; simp [hkx]⟩
                case measure => simp [intOf]; omega
          · obtain rfl : j = per (fs m) nm k := by omega
            have hcy := cycL_succ (fs m) nm (outB signs) k
            rw [HSEL.out k hlt ho] at hcy
            have hlen := cycL_length (fs m) nm (outB signs) k
            have hsz := hbw2.size
            have hom' := hom.mono (B' := w.heap.size + 1) (by omega)
            cases hall : (List.range (per (fs m) nm k)).all (fun q => decide (k ≤ it (fs m) q k)) with
            | false =>
              rw [hall] at hcy
              have hcy' : cycL (fs m) nm (outB signs) (k + 1) = cycL (fs m) nm (outB signs) k := by rw [hcy]; simp
              have HO := Lib.hid (show OO w2 (w.heap.size + 1) u3 (cycL (fs m) nm (outB signs) (k + 1)) from by rw [hcy']; exact hown2)
              clear hcy hcy' hown2 hall
              go_wp2
              go_roundw
              case rel => exact ⟨k + 1, by omega, by go_num, hbw2, HO.out⟩
              case measure => simp [intOf]; omega
            | true =>
              rw [hall] at hcy
              have HCY := Lib.hid (show cycL (fs m) nm (outB signs) (k + 1) = cycL (fs m) nm (outB signs) k ++ [itl (fs m) k (per (fs m) nm k)] from by rw [hcy]; simp)
              clear hcy hall
              go_wp2_with (at_builtin
                           refine wpList_append_row rfl (.tmp 39) (.tmp 41) rfl (w.heap.size + 1) u3 (cycL (fs m) nm (outB signs) k) rfl (hown2.keep (below_alloc _ _)) w2.heap.size (.slice (some ⟨gm, 0, none⟩) (per (fs m) nm k) cpm) (itl (fs m) k (per (fs m) nm k)) rfl (by rw [World.cell?_alloc_at _ _ _ _ rfl]; rfl) (hom'.alloc _) (by omega) (by simp; omega) ?_
                           intro v2 w3 ho2 hg2)
              go_roundw
              case rel => exact ⟨k + 1, by omega, by go_num, (hbw2.alloc (by omega) _).grown hg2 (by simp; omega) (fun q hq => (hown2.lt q hq).1), by rw [HCY.out]; exact ho2⟩
              case measure => simp [intOf]; omega
    · obtain rfl : k = nm := by omega
      clear hlt hk hm
      go_wp2
      go_ret
      exact ⟨_, rfl, hown.mono (Nat.le_succ _), hbW⟩

end Go.Proofs.Ytambhopkacgddaa

/- Words for memory: a slice of slices of the call's own, whose rows lie apart. -/
namespace Go.Proofs.Ytambhopkacgddaa
open Go.RowKit

/-- append of one int, and where the new slice lies. -/
theorem wpList_append_int_at {ops : Array Oper} {rest : List Oper} {o : Oper} {a : Act} {w : World} {Q : Exit → Act → World → Prop} (hgd : o.guard = none) (s x : Operand)
    (ho : o.op = .call { callee := .builtin .append, args := #[s, x], argTypes := #[22, 22] }) (B : Nat) (v : Value) (xs : List Int) (hs : a.eval s = v) (hown : OI w B v xs)
    (g : Nat) (y : Int) (hx : a.eval x = .slice (some ⟨g, 0, none⟩) 1 1) (hc : w.cell? ⟨g, 0, none⟩ = some (.int .i64 y)) (hlen : xs.length ≤ 1000000000) (hbase : B ≤ w.heap.size)
    (h : ∀ v' w', OI w' B v' (xs ++ [y]) → w.grownBy w' v.ownBlock → (v'.ownBlock = v.ownBlock ∨ v'.ownBlock = some w.heap.size) → wpList Try.prog ops Q rest (a.put o.dst v') w') : wpList Try.prog ops Q (o :: rest) a w := by
  obtain ⟨i0, hi, hz0, hz1, hz2⟩ := info_parts Try.infoInt
  refine wpList_append_own_at w hgd s x 22 ho B 3 i0 (.int .i64 0) 1 8 Try.underlying22 hi hz0 hz1 hz2 rfl (by decide) v xs.length (ints xs) hs hown ⟨g, 0, none⟩ 1 1 [.int .i64 y] hx rfl ?_ ?_ (by unfold maxLen; omega) (by omega) hbase ?_
  · intro j u hj
    match j, hj with
    | 0, hj => simp at hj; subst hj; simpa [Addr.add] using hc
  · intro u hu; simp at hu; subst hu; rfl
  · intro v' w' h1 h2 _ h4
    refine h v' w' ?_ h2 h4
    unfold OI
    simpa [ints] using h1

structure OD (w : World) (B : Nat) (v : Value) (vs : List Value) (xss : List (List Int)) : Prop where
  row : ownRow w B 22 v vs
  len : vs.length = xss.length
  el : ∀ i, i < xss.length → OI w B (vs.getD i undef) (xss.getD i [])
  apart : ∀ i j, i < xss.length → j < xss.length → i ≠ j → (vs.getD i undef).ownBlock = none ∨ (vs.getD i undef).ownBlock ≠ (vs.getD j undef).ownBlock
theorem OD.oo {w : World} {B : Nat} {v : Value} {vs : List Value} {xss : List (List Int)} (h : OD w B v vs xss) : OO w B v xss := ⟨vs, h.row, h.len, h.el⟩
theorem OD.nil (w : World) (B : Nat) : OD w B (.slice none 0 0) [] [] := ⟨World.ownsRow_nil w B _ _, rfl, fun i hi => absurd hi (by simp), fun i j hi => absurd hi (by simp)⟩
theorem OD.keep {w w' : World} {B : Nat} {v : Value} {vs : List Value} {xss : List (List Int)} (h : OD w B v vs xss) (hb : Below w.heap.size w w') : OD w' B v vs xss :=
  ⟨h.row.keep hb, h.len, fun i hi => (h.el i hi).keep hb, h.apart⟩
theorem OD.far {w : World} {B g n : Nat} {e : TypeId} {v : Value} {vs : List Value} {xss : List (List Int)} {V : Nat → Value} (h : OD w B v vs xss) (k : Arr w g e n V) (he : e ≠ 3) (he' : e ≠ 22) (j : Nat) (u : Value) : OD (w.setCell ⟨g, j, none⟩ u) B v vs xss :=
  ⟨h.row.far (h.row.ne_arr k he') u, h.len, fun i hi => (h.el i hi).far ((h.el i hi).ne_arr k he) u, h.apart⟩
theorem OD.form {w : World} {B : Nat} {v : Value} {vs : List Value} {xss : List (List Int)} (h : OD w B v vs xss) (hk : 0 < xss.length) : ∃ g cap, v = .slice (some ⟨g, 0, none⟩) xss.length cap ∧ B ≤ g ∧ g < w.heap.size := by
  rcases h.row.2 with ⟨_, h4⟩ | ⟨g, cap, cur, h4, hg, h5, _⟩
  · have := h.len; omega
  · refine ⟨g, cap, by rw [h4, h.len], hg, ?_⟩
    rcases Nat.lt_or_ge g w.heap.size with hlt | hge
    · exact hlt
    · rw [Array.getElem?_eq_none hge] at h5; cases h5

/-- append of one slice. -/
theorem wpList_append_row_od {ops : Array Oper} {rest : List Oper} {o : Oper} {a : Act} {w : World} {Q : Exit → Act → World → Prop} (hgd : o.guard = none) (s x : Operand)
    (ho : o.op = .call { callee := .builtin .append, args := #[s, x], argTypes := #[37, 37] }) (B : Nat) (v : Value) (vs : List Value) (xss : List (List Int)) (hs : a.eval s = v) (hown : OD w B v vs xss)
    (g : Nat) (hx : a.eval x = .slice (some ⟨g, 0, none⟩) 1 1) (hc : w.cell? ⟨g, 0, none⟩ = some (.slice none 0 0)) (hlen : xss.length ≤ 1000000000) (hbase : B ≤ w.heap.size)
    (h : ∀ v' w', OD w' B v' (vs ++ [.slice none 0 0]) (xss ++ [[]]) → w.grownBy w' v.ownBlock → wpList Try.prog ops Q rest (a.put o.dst v') w') : wpList Try.prog ops Q (o :: rest) a w := by
  obtain ⟨i0, hi, hz0, hz1, hz2⟩ := info_parts Try.infoSlice
  have h2 := hown.len
  refine wpList_append_own w hgd s x 37 ho B 22 i0 (.slice none 0 0) 1 24 Try.underlying37 hi hz0 hz1 hz2 rfl (by decide) v vs.length vs hs hown.row ⟨g, 0, none⟩ 1 1 [.slice none 0 0] hx rfl ?_ ?_ (by unfold maxLen; omega) (by omega) hbase ?_
  · intro j u hj
    match j, hj with
    | 0, hj => simp at hj; subst hj; simpa [Addr.add] using hc
  · intro u hu; simp at hu; subst hu; rfl
  · intro v' w' k1 k2 _
    have eL : ∀ i, i < xss.length → (vs ++ [Value.slice none 0 0]).getD i undef = vs.getD i undef := fun i e => by simp [List.getD, List.getElem?_append_left (show i < vs.length by omega)]
    have eN : (vs ++ [Value.slice none 0 0]).getD xss.length undef = .slice none 0 0 := by simp [List.getD, ← h2]
    refine h v' w' ⟨by unfold ownRow; simpa using k1, by simp [h2], fun i hi => ?_, fun i j hi hj hij => ?_⟩ k2
    · simp only [List.length_append, List.length_cons, List.length_nil] at hi
      by_cases e : i < xss.length
      · have e2 : (xss ++ [[]]).getD i [] = xss.getD i [] := by simp [List.getD, List.getElem?_append_left e]
        rw [eL i e, e2]
        exact (hown.el i e).grown k2 ((hown.el i e).ne_row hown.row (by decide))
      · have ei : i = xss.length := by omega
        subst ei
        have e2 : (xss ++ [[]]).getD xss.length [] = [] := by simp [List.getD]
        rw [eN, e2]
        exact OI.nil _ _
    · simp only [List.length_append, List.length_cons, List.length_nil] at hi hj
      by_cases ei : i < xss.length
      · rw [eL i ei]
        by_cases ej : j < xss.length
        · rw [eL j ej]; exact hown.apart i j ei ej hij
        · obtain rfl : j = xss.length := by omega
          rw [eN]
          cases hb : (vs.getD i undef).ownBlock with
          | none => exact .inl rfl
          | some q => exact .inr (by simp [Value.ownBlock])
      · obtain rfl : i = xss.length := by omega
        rw [eN]; exact .inl rfl

/-- Row k is replaced by an appended one. -/
theorem OD.set_ {w w' : World} {B k g n cap : Nat} {v' : Value} {vs : List Value} {xss : List (List Int)} {ys : List Int} (h : OD w B (.slice (some ⟨g, 0, none⟩) n cap) vs xss) (hk : k < xss.length)
    (hv : OI w' B v' ys) (hg : w.grownBy w' (vs.getD k undef).ownBlock) (hat : v'.ownBlock = (vs.getD k undef).ownBlock ∨ v'.ownBlock = some w.heap.size) :
    OD (w'.setCell ⟨g, k, none⟩ v') B (.slice (some ⟨g, 0, none⟩) n cap) (vs.set k v') (xss.set k ys) ∧ (∃ u, w'.cell? ⟨g, k, none⟩ = some u) ∧ w'.frozen? ⟨g, k, none⟩ = false := by
  have hlen := h.len
  have hrow : ownRow w' B 22 (.slice (some ⟨g, 0, none⟩) n cap) vs := World.ownsRow.kept h.row hg (by
    refine .inr fun e => ?_
    rcases (h.el k hk).ne_row h.row (by decide) with h1 | h1
    · rw [h1] at e; cases e
    · exact h1 e.symm)
  have hn : n = vs.length := by
    rcases hrow.2 with ⟨h1, _⟩ | ⟨g', cap', cur, h1, _⟩
    · cases h1
    · injection h1
  subst hn
  have hst := World.ownsRow.stored hrow k v'
  have hother : ∀ i, i < xss.length → i ≠ k → OI w' B (vs.getD i undef) (xss.getD i []) := fun i hi hik =>
    (h.el i hi).grown hg (h.apart i k hi hk hik)
  have hne3 : ∀ {u : Value} {zs : List Int}, OI w' B u zs → u.ownBlock ≠ some g := fun ho => by
    rcases ho.ne_row hrow (by decide) with h1 | h1
    · rw [h1]; simp
    · simpa [Value.ownBlock] using h1
  have eK : (vs.set k v').getD k undef = v' := by simp [List.getD, hlen, hk]
  have eO : ∀ i, i ≠ k → (vs.set k v').getD i undef = vs.getD i undef := fun i hik => by simp [List.getD, List.getElem?_set_ne (Ne.symm hik)]
  have apK : ∀ i, i < xss.length → i ≠ k → (vs.getD i undef).ownBlock = none ∨ (vs.getD i undef).ownBlock ≠ v'.ownBlock := fun i hi hik => by
    rcases hat with e | e
    · rw [e]; exact h.apart i k hi hk hik
    · cases hb : (vs.getD i undef).ownBlock with
      | none => exact .inl rfl
      | some q =>
        refine .inr fun e' => ?_
        rw [e] at e'
        have := (World.ownsRow.lt (h.el i hi) q hb).2
        injection e' with e'
        omega
  refine ⟨⟨?_, by simp [hlen], fun i hi => ?_, fun i j hi hj hij => ?_⟩, ?_, World.ownsRow.frozenAt hrow k⟩
  · have := hst.1
    unfold ownRow
    simpa using this
  · simp only [List.length_set] at hi
    by_cases e : i = k
    · subst e
      have e2 : (xss.set i ys).getD i [] = ys := by simp [List.getD, hi]
      rw [eK, e2]
      exact hv.far (p := ⟨g, i, none⟩) (hne3 hv) _
    · have e2 : (xss.set k ys).getD i [] = xss.getD i [] := by simp [List.getD, List.getElem?_set_ne (Ne.symm e)]
      rw [eO i e, e2]
      exact (hother i hi e).far (p := ⟨g, k, none⟩) (hne3 (hother i hi e)) _
  · simp only [List.length_set] at hi hj
    by_cases ei : i = k
    · subst ei
      rw [eK, eO j (Ne.symm hij)]
      rcases apK j hj (Ne.symm hij) with h1 | h1
      · cases hb : v'.ownBlock with
        | none => exact .inl rfl
        | some q => exact .inr (by rw [h1]; simp)
      · exact .inr (Ne.symm h1)
    · rw [eO i ei]
      by_cases ej : j = k
      · subst ej; rw [eK]; exact apK i hi ei
      · rw [eO j ej]; exact h.apart i j hi hj hij
  · have := World.ownsRow.cellAt hrow k (by omega)
    rw [this]
    exact ⟨_, List.getElem?_eq_getElem (by omega)⟩
theorem OD.cell {w : World} {B k g n cap : Nat} {vs : List Value} {xss : List (List Int)} (h : OD w B (.slice (some ⟨g, 0, none⟩) n cap) vs xss) (hk : k < xss.length) : w.cell? ⟨g, k, none⟩ = some (vs.getD k undef) := by
  have hn : n = vs.length := by
    rcases h.row.2 with ⟨h1, _⟩ | ⟨g', cap', cur, h1, _⟩
    · cases h1
    · injection h1
  have hl := h.len
  subst hn
  have := World.ownsRow.cellAt h.row k (by omega)
  rw [this, List.getElem?_eq_getElem (by omega)]
  have hkv : k < vs.length := by omega
  simp [List.getD, hkv]

end Go.Proofs.Ytambhopkacgddaa

/- Walk: the reference's code of a diagram. -/
namespace Go.Proofs.Ytambhopkacgddaa
open Go.RowKit

theorem OD.make {w : World} {g n B : Nat} (h : Arr w g 22 n (fun _ => .slice none 0 0)) (hB : B ≤ g) (hn : n ≤ 1000000) : OD w B (.slice (some ⟨g, 0, none⟩) n n) (List.replicate n (.slice none 0 0)) (List.replicate n []) := by
  refine ⟨⟨by simp, .inr ⟨g, n, cellsN n (fun _ => .slice none 0 0), by simp, hB, h, by simp, by unfold maxLen; omega, by simp [cellsN], ?_⟩⟩, by simp, fun i hi => ?_, fun i j hi hj hij => ?_⟩
  · simp only [cellsN]
    rw [List.take_of_length_le (by simp)]
    exact List.ext_getElem (by simp) fun i h1 h2 => by simp
  · have hi' : i < n := by simpa using hi
    have e1 : (List.replicate n (Value.slice none 0 0)).getD i undef = .slice none 0 0 := by simp [List.getD, hi']
    have e2 : (List.replicate n ([] : List Int)).getD i [] = [] := by simp [List.getD, hi']
    rw [e1, e2]; exact OI.nil _ _
  · have hi' : i < n := by simpa using hi
    have e1 : (List.replicate n (Value.slice none 0 0)).getD i undef = .slice none 0 0 := by simp [List.getD, hi']
    rw [e1]; exact .inl rfl

set_option maxHeartbeats 6400000 in
set_option maxRecDepth 100000 in
theorem drof_any (A B : Option Addr) (n cs nm cm : Nat) (lp : Int) (s _m st : List Int) (w : World) (_hs : RI w A n s) (hpos : 0 < n) (h64 : n ≤ 64) (hk : KnotSt st n)
    (hst : ∀ W, Below w.heap.size w W → Calls Try.prog 33 #[dval A n cs B nm cm lp] W (CycsPost W [st])) :
    Calls Try.prog 15 #[dval A n cs B nm cm lp] w fun e w' => ∃ g, e = .returned (.slice (some ⟨g, 0, none⟩) n n) ∧ Arr w' g 3 n (zv fun i => evK st n (cr st (2 * i))) ∧ Below w.heap.size w w' := by
  have hd := DB.new w A n cs B nm cm lp
  obtain ⟨d0, d1, d2, dlt⟩ := hd
  have hb0 := below_alloc w (dbox A n cs B nm cm lp)
  have CS := Lib.hid (hst _ hb0)
  have HK := Lib.hid hk
  clear hst hk
  have hmk := fun W => make_one (P := Try.prog) Try.underlying22 Try.infoInt rfl n (by omega) (by omega) W
  have hmk2 := fun W => make_one (P := Try.prog) Try.underlying37 Try.infoSlice rfl n (by omega) (by omega) W
  have hn0 : (0 : Int) < (n : Int) := by omega
  have hn1 : (n : Int) ≤ 64 := by omega
  go_enter Try.func15, Try.ntmps15
  go_wp2_with ((with_reducible refine CS.out.mono ?_); rintro e w3 ⟨v3, rfl, ho, hb3⟩; obtain ⟨A3, c3, rfl, hro⟩ := ho.ro; obtain ⟨b3, o3, rfl, hbl⟩ := hro.at_ (Nat.zero_lt_succ _); obtain ⟨A4, n4, c4, hcel, hri⟩ := hro.el 0 (Nat.zero_lt_succ _); rw [Nat.add_zero] at hcel; obtain rfl : n4 = 2 * n := hri.1.symm.trans HK.out.len; have e0 := (hb3.cell (p := ⟨w.heap.size, 0, none⟩) dlt).trans d0; have e1 := (hb3.cell (p := ⟨w.heap.size, 1, none⟩) dlt).trans d1; have e2 := (hb3.cell (p := ⟨w.heap.size, 2, none⟩) dlt).trans d2; have elt := Nat.lt_of_lt_of_le dlt hb3.size)
  have hri' : RI w3 A4 (2 * n) st := hri
  obtain ⟨bS, oS, rfl, hbS, hcS⟩ := hri'.2 (by omega)
  have HCS := Lib.hid hcS
  have hbw3 := below_step hb0 hb3
  have hA0 : Arr (w3.alloc (.cells (cellsN n fun _ => .slice none 0 0) 22)) w3.heap.size 22 n (fun _ => .slice none 0 0) := Arr.new w3 _ _ _
  have hod0 : ∃ vs, OD (w3.alloc (.cells (cellsN n fun _ => .slice none 0 0) 22)) w3.heap.size (.slice (some ⟨w3.heap.size, 0, none⟩) n n) vs (nmK st n 0) := ⟨_, by rw [nmK_zero]; exact OD.make hA0 (Nat.le_refl _) (by omega)⟩
  have hb4 := below_alloc w3 (.cells (cellsN n fun _ => .slice none 0 0) 22)
  have hlt4 : w3.heap.size < (w3.alloc (.cells (cellsN n fun _ => .slice none 0 0) 22)).heap.size := by simp
  obtain ⟨g4, hg4⟩ : ∃ g4, w3.heap.size = g4 := ⟨_, rfl⟩
  obtain ⟨L, hL⟩ : ∃ L, 2 * n = L := ⟨_, rfl⟩
  rw [hL] at HCS ⊢
  have HL := Lib.hid hL
  have hL1 : (L : Int) ≤ 128 := by omega
  clear hL hA0 hcS hri hri' hro ho hcel hmk2 hb3 CS d0 d1 d2
  generalize w3.alloc (.cells (cellsN n fun _ => .slice none 0 0) 22) = wA at hod0 hb4 hlt4
  rw [hg4] at hod0 hlt4 ⊢
  have HG4 := Lib.hid hg4
  have hb4' : Below g4 w3 wA := by rw [← hg4]; exact hb4
  have hbS4 : bS < g4 := by rw [← hg4]; exact hbS
  have hlt0 : w.heap.size < g4 := by rw [← hg4]; exact elt
  clear hg4 hb4
  go_loopw [5, 6] (fun i _ wr => ∃ k : Nat, k ≤ L ∧ i = .int .i64 k ∧ Below g4 w3 wr ∧ g4 < wr.heap.size ∧ ∃ vs, OD wr g4 (.slice (some ⟨g4, 0, none⟩) n n) vs (nmK st n k)) (fun i _ _ => L - (intOf i).toNat)
  case atStart => exact ⟨0, by omega, rfl, hb4', hlt4, hod0⟩
  case round =>
    obtain ⟨k, hkL, rfl, hbr, hzr, hor⟩ := hrel
    by_cases hlt : k < L
    · obtain ⟨vs, hvs⟩ := hor
      obtain ⟨hx0, hx1⟩ := HK.out.rg k (by have := HL.out; omega)
      have hcell : wr.cell? ⟨bS, oS + k, none⟩ = some (.int .i64 (st.getD k 0)) := (hbr.cell (p := ⟨bS, oS + k, none⟩) hbS4).trans (HCS.out k hlt)
      have hset := nmK_succ (st := st) (n := n) (k := k) hx1
      have hcr : cr st k = (st.getD k 0).toNat / 4 := rfl
      obtain ⟨x, hx⟩ : ∃ x : Nat, st.getD k 0 = (x : Int) := ⟨(st.getD k 0).toNat, by omega⟩
      rw [hx] at hcr hcell
      rw [Int.toNat_natCast] at hcr
      rw [hcr] at hx1 hset
      have hlen : x / 4 < (nmK st n k).length := by rw [nmK_length]; exact hx1
      have hel := hvs.el (x / 4) hlen
      rw [nmK_get hx1] at hel
      have hvc := hvs.cell hlen
      have hrl := nmR_le st k (x / 4)
      obtain ⟨ve, hve⟩ : ∃ ve, vs.getD (x / 4) undef = ve := ⟨_, rfl⟩
      rw [hve] at hel hvc
      obtain ⟨Ae, ne, ce, rfl⟩ : ∃ Ae ne ce, ve = .slice Ae ne ce := by
        rcases hel.form with ⟨e, _⟩ | ⟨g, cap, e, _⟩
        · exact ⟨_, _, _, e⟩
        · exact ⟨_, _, _, e⟩
      have HVS := Lib.hid hvs
      have HVE := Lib.hid hve
      have HEL := Lib.hid hel
      have HSET := Lib.hid hset
      have HLEN := Lib.hid hlen
      obtain ⟨ml, hml⟩ : ∃ ml, nmR st k (x / 4) = ml := ⟨_, rfl⟩
      rw [hml] at HEL HSET hrl
      have hxw : IntKind.i64.wrap ((x : Int) / 4) = (x : Int) / 4 := IntWalk.i64_in _ (by omega)
      have hk0 : (0 : Int) ≤ (k : Int) := Int.natCast_nonneg _
      have hk1 : (k : Int) < (L : Int) := by omega
      have hxi0 : (0 : Int) ≤ (x : Int) := Int.natCast_nonneg _
      have hxi1 : (x : Int) / 4 < (n : Int) := by omega
      have hxi2 : (0 : Int) ≤ (x : Int) / 4 := by omega
      have hxi3 : (x : Int) ≤ 1000 := by omega
      have hblk : ∀ q, (Value.slice Ae ne ce).ownBlock = some q → g4 ≤ q := fun q hq => (World.ownsRow.lt HEL.out q hq).1
      have HBLK := Lib.hid hblk
      have hwC : ∃ wC : World, wC = wr := ⟨_, rfl⟩
      clear hvs hve hel hset hlen hml hx hcr hod0 hblk hwC hx0
      go_wp2_with (at_builtin
                   refine wpList_append_int_at rfl (.tmp 35) (.tmp 37) rfl g4 (.slice Ae ne ce) ml rfl (HEL.out.alloc _) wr.heap.size (k : Int) rfl (by rw [World.cell?_alloc_at _ _ _ _ rfl]; rfl) (by omega) (by simp; omega) ?_
                   intro v5 w5 ho5 hg5 hat5
                   obtain ⟨gv, cv5, rfl⟩ := ho5.form_pos (n := ml.length + 1) (by simp) (by omega)
                   obtain ⟨hod, ⟨u5, hu5⟩, hf5⟩ := (HVS.out.keep (below_alloc wr (.cells #[.int .i64 (k : Int)] 3))).set_ (k := x / 4) HLEN.out ho5 (by rw [HVE.out]; exact hg5) (by rw [HVE.out]; exact hat5)
                   have HOD := Lib.hid hod
                   have HG5 := Lib.hid hg5
                   clear hod ho5 hg5 hat5)
      go_roundw
      case rel =>
        have hz5 := HG5.out.size
        have hbF : Below g4 w3 w5 := (hbr.alloc (Nat.le_of_lt hzr) (.cells #[.int .i64 (k : Int)] 3)).grown HG5.out (by simp; omega) (fun q hq => HBLK.out q hq)
        have hC := HOD.out
        rw [← HSET.out] at hC
        exact ⟨k + 1, by omega, by go_num, below_set hbF (Nat.le_refl _) _, by simp [World.setCell]; simp at hz5; omega, ⟨_, hC⟩⟩
      case measure => simp [intOf]; omega
    · obtain rfl : k = L := by omega
      have hbwr : Below w.heap.size w wr := hbw3.trans (hbr.mono (by rw [← HG4.out]; exact hbw3.size))
      have f0 := (hbr.cell (p := ⟨w.heap.size, 0, none⟩) hlt0).trans e0
      have f1 := (hbr.cell (p := ⟨w.heap.size, 1, none⟩) hlt0).trans e1
      obtain ⟨vs, hvs⟩ := hor
      have HVS := Lib.hid hvs
      have hOut : Arr (wr.alloc (.cells (cellsN n fun _ => .int .i64 0) 3)) wr.heap.size 3 n (zv fun i => if cr st (2 * i) < 0 then evK st n (cr st (2 * i)) else 0) := (Arr.new wr n 3 fun _ => .int .i64 0).congr fun i _ => by simp [zv]
      have hbO := below_alloc wr (.cells (cellsN n fun _ => .int .i64 0) 3)
      obtain ⟨wB, hwB⟩ : ∃ wB : World, wB = wr := ⟨_, rfl⟩
      subst hwB
      clear hvs hod0 hlt hkL
      go_wp2
      generalize wB.alloc (.cells (cellsN n fun _ => .int .i64 0) 3) = wO at hOut hbO
      go_loopw [8, 9, 10] (fun c _ _ wr => ∃ q : Nat, q ≤ n ∧ c = .int .i64 q ∧ Below wB.heap.size wB wr ∧ Arr wr wB.heap.size 3 n (zv fun i => if cr st (2 * i) < q then evK st n (cr st (2 * i)) else 0)) (fun c _ _ _ => n - (intOf c).toNat)
      case atStart => exact ⟨0, by omega, rfl, hbO, hOut⟩
      case round =>
        obtain ⟨q, hq, rfl, hbq, hAq⟩ := hrel
        by_cases hql : q < n
        · obtain ⟨i, j, hi, hj, hci, hcj, hev, hrow⟩ := HK.out.two hql
          have hlen : q < (nmK st n k).length := by rw [nmK_length]; exact hql
          have hel := HVS.out.el q hlen
          rw [nmK_get hql] at hel
          have hvc := (hbq.cell (p := ⟨g4, q, none⟩) (by show g4 < wB.heap.size; omega)).trans (HVS.out.cell hlen)
          rw [HL.out] at hrow
          have hcs : wr.cell? ⟨bS, oS + (2 * j + 1), none⟩ = some (.int .i64 (st.getD (2 * j + 1) 0)) := ((hbq.cell (p := ⟨bS, oS + (2 * j + 1), none⟩) (by show bS < wB.heap.size; omega)).trans (hbr.cell (p := ⟨bS, oS + (2 * j + 1), none⟩) hbS4)).trans (HCS.out (2 * j + 1) (by have := HL.out; omega))
          obtain ⟨hx0, _⟩ := HK.out.rg (2 * j + 1) (by omega)
          unfold vlO at hev
          obtain ⟨x, hx⟩ : ∃ x : Nat, st.getD (2 * j + 1) 0 = (x : Int) := ⟨(st.getD (2 * j + 1) 0).toNat, by omega⟩
          rw [hx] at hcs hev
          rw [Int.toNat_natCast] at hev
          have huq : ∀ i', i' < n → cr st (2 * i') = q → i' = i := fun i' hi' e => HK.out.ev i' i hi' hi (e.trans hci.symm)
          have HUQ := Lib.hid huq
          have HCI := Lib.hid hci
          have HEV := Lib.hid hev
          -- both orders of the two passages
          have hrow2 : ∃ (a b : Nat), nmR st k q = [(a : Int), (b : Int)] ∧ ((a = 2 * i ∧ b = 2 * j + 1) ∨ (a = 2 * j + 1 ∧ b = 2 * i)) := by
            rcases hrow with e | e
            · exact ⟨_, _, e, .inl ⟨rfl, rfl⟩⟩
            · exact ⟨_, _, e, .inr ⟨rfl, rfl⟩⟩
          obtain ⟨a, b, hab, hor2⟩ := hrow2
          rw [hab] at hel
          obtain ⟨gv, cv, hve⟩ := hel.form_pos (n := 2) rfl (by decide)
          rw [hve] at hel hvc
          have hgv := (World.ownsRow.lt hel gv rfl).2
          have ca : wr.cell? ⟨gv, 0, none⟩ = some (.int .i64 a) := (hbq.cell (p := ⟨gv, 0, none⟩) hgv).trans (hel.cell 0 (Nat.zero_lt_succ _))
          have cb : wr.cell? ⟨gv, 1, none⟩ = some (.int .i64 b) := (hbq.cell (p := ⟨gv, 1, none⟩) hgv).trans (hel.cell 1 (Nat.succ_lt_succ (Nat.zero_lt_succ _)))
          have fO := hAq.frozen i
          have cO := hAq.cell i hi
          have HAQ := Lib.hid hAq
          have hq0 : (0 : Int) ≤ (q : Int) := Int.natCast_nonneg _
          have hq1 : (q : Int) < (n : Int) := by omega
          clear hel hve hab hrow hlen hx hx0 huq hci hcj hev hAq
          have hi0 : (0 : Int) ≤ (i : Int) := Int.natCast_nonneg _
          have hi1 : (i : Int) < (n : Int) := by omega
          have hj0 : (0 : Int) ≤ (j : Int) := Int.natCast_nonneg _
          have hj1 : (j : Int) < (n : Int) := by omega
          have hjL : 2 * (j : Int) + 1 < (k : Int) := by have := HL.out; omega
          have ht1 : (2 * (j : Int) + 1).toNat = 2 * j + 1 := by omega
          have hxi0 : (0 : Int) ≤ (x : Int) := Int.natCast_nonneg _
          have w1 : IntKind.i64.wrap (i : Int) = (i : Int) := IntWalk.i64_in _ (by omega)
          have m1 : (2 * (i : Int)) % 2 = 0 := by omega
          have m2 : (2 * (j : Int) + 1) % 2 = 1 := by omega
          have q1 : (2 * (i : Int)) / 2 = (i : Int) := by omega
          have hA1 : Arr (wr.setCell ⟨wB.heap.size, i, none⟩ (.int .i64 (2 * (j : Int) + 1 + 1))) wB.heap.size 3 n (zv fun i' => if i' = i then 2 * (j : Int) + 1 + 1 else if cr st (2 * i') < q then evK st n (cr st (2 * i')) else 0) := HAQ.out.setz i _
          have fO2 := hA1.frozen i
          have cO2 := hA1.cell i hi
          have cs2 : (wr.setCell ⟨wB.heap.size, i, none⟩ (.int .i64 (2 * (j : Int) + 1 + 1))).cell? ⟨bS, oS + (2 * j + 1), none⟩ = some (.int .i64 (x : Int)) := by rw [World.cell?_setCell_other _ _ _ _ (by simp <;> omega)]; exact hcs
          have HA1 := Lib.hid hA1
          clear hA1
          have hfin : ∀ (W : World) (u : Int) (V : Nat → Int), evK st n q = u → Arr W wB.heap.size 3 n (zv V) → (∀ i', i' < n → V i' = if i' = i then u else if cr st (2 * i') < q then evK st n (cr st (2 * i')) else 0) → Arr W wB.heap.size 3 n (zv fun i' => if cr st (2 * i') < q + 1 then evK st n (cr st (2 * i')) else 0) := fun W u V hu hV hVe => by
            refine hV.congr fun i' hi' => ?_
            simp only [zv]
            rw [hVe i' hi']
            by_cases e : i' = i
            · subst e; rw [if_pos rfl, HCI.out, if_pos (by omega), hu]
            · rw [if_neg e]
              have : cr st (2 * i') ≠ q := fun e' => e (HUQ.out i' hi' e')
              by_cases e2 : cr st (2 * i') < q
              · rw [if_pos e2, if_pos (by omega)]
              · rw [if_neg e2, if_neg (by omega)]
          have HFIN := Lib.hid hfin
          clear hfin
          by_cases hp : x % 2 = 1
          · have hp' : (x : Int) % 2 = 1 := by omega
            have hu : evK st n q = -(2 * (j : Int) + 1) - 1 := by rw [HEV.out, if_pos hp]; omega
            have hAn := HFIN.out _ _ _ hu (HA1.out.setz i (-(2 * (j : Int) + 1) - 1)) (fun i' _ => by
              by_cases e : i' = i
              · rw [if_pos e, if_pos e]
              · rw [if_neg e, if_neg e, if_neg e])
            have HAN := Lib.hid hAn
            clear hAn hu hp
            rcases hor2 with ⟨rfl, rfl⟩ | ⟨rfl, rfl⟩
            all_goals
              go_wp2
              go_quiet (fail)
              go_wp2
              go_roundw
              case rel => exact ⟨q + 1, by omega, by go_num, below_set (below_set (below_drewN hbq _) (Nat.le_refl _) _) (Nat.le_refl _) _, HAN.out⟩
              case measure => simp [intOf]; omega
          · have hp' : (x : Int) % 2 = 0 := by omega
            have hu : evK st n q = 2 * (j : Int) + 1 + 1 := by rw [HEV.out, if_neg hp]; omega
            have hAn := HFIN.out _ _ _ hu HA1.out (fun i' _ => rfl)
            have HAN := Lib.hid hAn
            clear hAn hu hp
            rcases hor2 with ⟨rfl, rfl⟩ | ⟨rfl, rfl⟩
            all_goals
              go_wp2
              go_quiet (fail)
              go_wp2
              go_roundw
              case rel => exact ⟨q + 1, by omega, by go_num, below_set (below_drewN hbq _) (Nat.le_refl _) _, HAN.out⟩
              case measure => simp [intOf]; omega
        · obtain rfl : q = n := by omega
          have hfin : Arr wr wB.heap.size 3 q (zv fun i => evK st q (cr st (2 * i))) := hAq.congr fun i hi => by
            simp only [zv]; rw [if_pos (HK.out.rg (2 * i) (by omega)).2]
          have HF := Lib.hid hfin
          have HB := Lib.hid (show Below w.heap.size w wr from hbwr.trans (hbq.mono hbwr.size))
          clear hfin hAq hql hq hOut
          go_wp2
          go_ret
          exact ⟨_, rfl, HF.out, HB.out⟩

end Go.Proofs.Ytambhopkacgddaa
