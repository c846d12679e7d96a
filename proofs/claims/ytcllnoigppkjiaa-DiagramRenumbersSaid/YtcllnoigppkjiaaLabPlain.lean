/- Plain mathematics: labels by passes. -/
import Derived.Test.YtcllnoigppkjiaaOrbPlain
namespace Go.Proofs.Ytcllnoigppkjiaa

def lowStep (m : Nat → Nat) (l : Nat → Nat) (h : Nat) : Nat → Nat := upd (upd l (h / 4) (min (l (h / 4)) (l (m h / 4)))) (m h / 4) (min (l (h / 4)) (l (m h / 4)))
def passAt (m : Nat → Nat) (l : Nat → Nat) : Nat → Nat → Nat
  | 0 => l
  | k + 1 => lowStep m (passAt m l k) k
def labAt (m : Nat → Nat) (N : Nat) : Nat → Nat → Nat
  | 0 => fun i => i
  | p + 1 => passAt m (labAt m N p) N

theorem lowStep_le (m l : Nat → Nat) (h i : Nat) : lowStep m l h i ≤ l i := by
  unfold lowStep upd
  by_cases e1 : i = m h / 4
  · subst e1; simp only [if_pos]; omega
  · rw [if_neg e1]
    by_cases e2 : i = h / 4
    · subst e2; simp only [if_pos]; omega
    · rw [if_neg e2]; exact Nat.le_refl _
theorem lowStep_a (m l : Nat → Nat) (h : Nat) : lowStep m l h (h / 4) = min (l (h / 4)) (l (m h / 4)) := by
  unfold lowStep upd; split <;> simp
theorem lowStep_b (m l : Nat → Nat) (h : Nat) : lowStep m l h (m h / 4) = min (l (h / 4)) (l (m h / 4)) := by
  unfold lowStep upd; simp
theorem pass_le (m l : Nat → Nat) (k i : Nat) : passAt m l k i ≤ l i := by
  induction k with
  | zero => exact Nat.le_refl _
  | succ k ih => exact Nat.le_trans (lowStep_le _ _ _ _) ih
theorem pass_edge (m l : Nat → Nat) (k h : Nat) (hh : h < k) : passAt m l k (h / 4) ≤ l (m h / 4) ∧ passAt m l k (m h / 4) ≤ l (h / 4) := by
  induction k with
  | zero => omega
  | succ k ih =>
    show lowStep m (passAt m l k) k _ ≤ _ ∧ lowStep m (passAt m l k) k _ ≤ _
    by_cases e : h = k
    · subst e
      rw [lowStep_a, lowStep_b]
      have h1 := pass_le m l h (h / 4)
      have h2 := pass_le m l h (m h / 4)
      omega
    · obtain ⟨h1, h2⟩ := ih (by omega)
      exact ⟨Nat.le_trans (lowStep_le _ _ _ _) h1, Nat.le_trans (lowStep_le _ _ _ _) h2⟩
theorem pass_conn (m l : Nat → Nat) (N k : Nat) (hk : k ≤ N) (hl : ∀ i, Conn m N i (l i)) (i : Nat) : Conn m N i (passAt m l k i) := by
  induction k generalizing i with
  | zero => exact hl i
  | succ k ih =>
    have h0 := ih (by omega)
    have e : Conn m N (k / 4) (m k / 4) := .step k (by omega) (.refl _)
    show Conn m N i (lowStep m (passAt m l k) k i)
    generalize passAt m l k = p at *
    have hmin : min (p (k / 4)) (p (m k / 4)) = p (k / 4) ∨ min (p (k / 4)) (p (m k / 4)) = p (m k / 4) := by omega
    by_cases e1 : i = m k / 4
    · subst e1; rw [lowStep_b]
      rcases hmin with h | h <;> rw [h]
      · exact e.symm.trans (h0 _)
      · exact h0 _
    · by_cases e2 : i = k / 4
      · subst e2; rw [lowStep_a]
        rcases hmin with h | h <;> rw [h]
        · exact h0 _
        · exact e.trans (h0 _)
      · have : lowStep m p k i = p i := by unfold lowStep upd; rw [if_neg e1, if_neg e2]
        rw [this]; exact h0 i
theorem lab_conn (m : Nat → Nat) (N p i : Nat) : Conn m N i (labAt m N p i) := by
  induction p generalizing i with
  | zero => exact .refl _
  | succ p ih => exact pass_conn m _ N N (Nat.le_refl _) ih i
theorem lab_le (m : Nat → Nat) (N p i : Nat) : labAt m N p i ≤ i := by
  induction p generalizing i with
  | zero => exact Nat.le_refl _
  | succ p ih => exact Nat.le_trans (pass_le _ _ _ _) (ih i)
theorem leaving {m : Nat → Nat} {N : Nat} {P : Nat → Prop} {a b : Nat} (hc : Conn m N a b) (ha : P a) (hb : ¬ P b) : ∃ h, h < N ∧ ((P (h / 4) ∧ ¬ P (m h / 4)) ∨ (P (m h / 4) ∧ ¬ P (h / 4))) := by
  induction hc with
  | refl => exact absurd ha hb
  | step h hh _ ih =>
    rcases Classical.em (P (h / 4)) with hp | hp
    · exact ⟨h, hh, .inl ⟨hp, hb⟩⟩
    · exact ih hp
  | back h hh _ ih =>
    rcases Classical.em (P (m h / 4)) with hp | hp
    · exact ⟨h, hh, .inr ⟨hp, hb⟩⟩
    · exact ih hp

theorem countP_lt {p q : Nat → Bool} {n : Nat} (h : ∀ i, i < n → p i = true → q i = true) (j : Nat) (hj : j < n) (h1 : p j = false) (h2 : q j = true) : (List.range n).countP p + 1 ≤ (List.range n).countP q := by
  induction n with
  | zero => omega
  | succ n ih =>
    rw [List.range_succ, List.countP_append, List.countP_append]
    simp only [List.countP_cons, List.countP_nil]
    by_cases e : j = n
    · subst e
      have hle : (List.range j).countP p ≤ (List.range j).countP q := List.countP_mono_left (by
        intro x hx hp; exact h x (by have := List.mem_range.1 hx; omega) hp)
      rw [h1, h2]; simp; omega
    · have := ih (fun i hi => h i (by omega)) (by omega)
      have h3 := h n (by omega)
      cases hp : p n with
      | false => simp; omega
      | true => rw [h3 hp]; simp; omega

/-- n passes are enough. -/
theorem labAt_eq {m : Nat → Nat} {N n : Nat} {F : Nat → Nat} (hN : N = 4 * n) (hm : ∀ h, h < N → m h < N) (hF : IsLab m N n F) (c : Nat) (hc : c < n) : labAt m N n c = F c := by
  have key : ∀ p, (∀ x, x < n → F x = F c → labAt m N p x = F c) ∨ p + 1 ≤ (List.range n).countP (fun x => labAt m N p x == F c) := by
    have hge : ∀ p x, x < n → F x = F c → F c ≤ labAt m N p x := fun p x hx e => by
      have h1 := hF.conn (lab_conn m N p x)
      have h2 := lab_le m N p x
      have h3 := (hF.1 (labAt m N p x) (by omega)).1
      omega
    have hFc := hF.1 c hc
    have hFF : F (F c) = F c := (hF.conn hFc.2).symm
    intro p
    induction p with
    | zero =>
      right
      have h0 : (List.range n).countP (fun _ => false) = 0 := by simp
      have := countP_lt (p := fun _ => false) (q := fun x => labAt m N 0 x == F c) (n := n) (fun _ _ h => by cases h) (F c) (by omega) rfl (by simp [labAt])
      omega
    | succ p ih =>
      rcases ih with ih | ih
      · left
        intro x hx e
        have h1 := pass_le m (labAt m N p) N x
        have h2 := hge (p + 1) x hx e
        have h3 := ih x hx e
        show passAt m (labAt m N p) N x = F c
        have h4 : F c ≤ passAt m (labAt m N p) N x := h2
        omega
      · by_cases hall : ∀ x, x < n → F x = F c → labAt m N p x = F c
        · left
          intro x hx e
          have h1 := pass_le m (labAt m N p) N x
          have h4 : F c ≤ passAt m (labAt m N p) N x := hge (p + 1) x hx e
          have h3 := hall x hx e
          show passAt m (labAt m N p) N x = F c
          omega
        · right
          have hmono : ∀ i, i < n → (labAt m N p i == F c) = true → (labAt m N (p + 1) i == F c) = true := fun i hi e => by
            have e' : labAt m N p i = F c := by simpa using e
            have hfi : F i = F c := by rw [hF.conn (lab_conn m N p i), e', hFF]
            have h1 := pass_le m (labAt m N p) N i
            have h4 : F c ≤ passAt m (labAt m N p) N i := hge (p + 1) i hi hfi
            have h5 : labAt m N (p + 1) i = F c := by show passAt m (labAt m N p) N i = F c; omega
            rw [h5]; simp
          have hex : ∃ x, x < n ∧ F x = F c ∧ labAt m N p x ≠ F c := Classical.byContradiction fun h => hall fun x hx e => Classical.byContradiction fun h' => h ⟨x, hx, e, h'⟩
          obtain ⟨x, hx, e, hne⟩ := hex
          have hcr : Conn m N (F c) x := by
            have h1 := (hF.1 x hx).2
            rw [e] at h1; exact h1.symm
          have hr : labAt m N p (F c) = F c := by
            have h1 := lab_le m N p (F c)
            have h2 := hge p (F c) (by omega) hFF
            omega
          obtain ⟨h, hh, hcase⟩ := leaving (P := fun y => labAt m N p y = F c) hcr hr hne
          have hmh := hm h hh
          have hp := pass_edge m (labAt m N p) N h hh
          have hv : ∃ v, v < n ∧ labAt m N p v ≠ F c ∧ labAt m N (p + 1) v = F c := by
            rcases hcase with ⟨h1, h2⟩ | ⟨h1, h2⟩
            · refine ⟨m h / 4, by omega, h2, ?_⟩
              have hf1 : F (h / 4) = F c := by rw [hF.conn (lab_conn m N p (h / 4)), h1, hFF]
              have hf2 : F (m h / 4) = F c := by rw [← hF.2 h hh, hf1]
              have h4 : F c ≤ passAt m (labAt m N p) N (m h / 4) := hge (p + 1) _ (by omega) hf2
              show passAt m (labAt m N p) N (m h / 4) = F c
              omega
            · refine ⟨h / 4, by omega, h2, ?_⟩
              have hf1 : F (m h / 4) = F c := by rw [hF.conn (lab_conn m N p (m h / 4)), h1, hFF]
              have hf2 : F (h / 4) = F c := by rw [hF.2 h hh, hf1]
              have h4 : F c ≤ passAt m (labAt m N p) N (h / 4) := hge (p + 1) _ (by omega) hf2
              show passAt m (labAt m N p) N (h / 4) = F c
              omega
          obtain ⟨v, hv1, hv2, hv3⟩ := hv
          have := countP_lt hmono v hv1 (by simpa using hv2) (by simpa using hv3)
          omega
  rcases key n with h | h
  · exact h c hc rfl
  · have : (List.range n).countP (fun x => labAt m N n x == F c) ≤ n := Nat.le_trans List.countP_le_length (by simp)
    omega

end Go.Proofs.Ytcllnoigppkjiaa
