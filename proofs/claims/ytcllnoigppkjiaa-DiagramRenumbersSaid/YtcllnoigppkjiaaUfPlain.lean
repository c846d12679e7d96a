/- Plain mathematics: union-find and connected components. -/
namespace Go.Proofs.Ytcllnoigppkjiaa

def upd (L : Nat → Nat) (j v : Nat) : Nat → Nat := fun i => if i = j then v else L i
theorem upd_same (L : Nat → Nat) (j v : Nat) : upd L j v j = v := by simp [upd]
theorem upd_other (L : Nat → Nat) (j v i : Nat) (h : i ≠ j) : upd L j v i = L i := by simp [upd, h]

/-- The root of c. -/
def root (L : Nat → Nat) (c : Nat) : Nat := if L c < c then root L (L c) else c
  termination_by c

theorem root_le (L : Nat → Nat) (c : Nat) : root L c ≤ c := by
  induction c using Nat.strongRecOn with
  | ind c ih =>
    rw [root]; split
    · rename_i h; exact Nat.le_of_lt (Nat.lt_of_le_of_lt (ih _ h) h)
    · exact Nat.le_refl _
theorem root_fix (L : Nat → Nat) (c : Nat) (h : ¬ L c < c) : root L c = c := by rw [root, if_neg h]
theorem root_step (L : Nat → Nat) (c : Nat) (h : L c < c) : root L c = root L (L c) := by rw [root, if_pos h]
theorem root_is (L : Nat → Nat) (c : Nat) : ¬ L (root L c) < root L c := by
  induction c using Nat.strongRecOn with
  | ind c ih =>
    by_cases h : L c < c
    · rw [root_step L c h]; exact ih _ h
    · rw [root_fix L c h]; exact h
theorem root_root (L : Nat → Nat) (c : Nat) : root L (root L c) = root L c := root_fix L _ (root_is L c)

theorem root_union (L : Nat → Nat) (lo hi : Nat) (hlt : lo < hi) (hlo : ¬ L lo < lo) (hhi : ¬ L hi < hi) (c : Nat) :
    root (upd L hi lo) c = if root L c = hi then lo else root L c := by
  have hl : root (upd L hi lo) lo = lo := root_fix _ _ (by rw [upd_other _ _ _ _ (by omega)]; exact hlo)
  induction c using Nat.strongRecOn with
  | ind c ih =>
    by_cases e : c = hi
    · subst e
      rw [root_step _ _ (by rw [upd_same]; exact hlt), upd_same, hl, root_fix L c hhi, if_pos rfl]
    · by_cases h : L c < c
      · rw [root_step _ _ (by rw [upd_other _ _ _ _ e]; exact h), upd_other _ _ _ _ e, ih _ h, root_step L c h]
      · rw [root_fix _ _ (by rw [upd_other _ _ _ _ e]; exact h), root_fix L c h, if_neg e]

theorem root_compress (L : Nat → Nat) (c i : Nat) : root (upd L c (root L c)) i = root L i := by
  induction i using Nat.strongRecOn with
  | ind i ih =>
    by_cases e : i = c
    · subst e
      by_cases h : L i < i
      · have hr : root L i < i := by
          rw [root_step L i h]; exact Nat.lt_of_le_of_lt (root_le _ _) h
        rw [root_step _ _ (by rw [upd_same]; exact hr), upd_same, ih _ hr, root_root]
      · rw [root_fix _ _ (by rw [upd_same, root_fix L i h]; omega), root_fix L i h]
    · by_cases h : L i < i
      · rw [root_step _ _ (by rw [upd_other _ _ _ _ e]; exact h), upd_other _ _ _ _ e, ih _ h, root_step L i h]
      · rw [root_fix _ _ (by rw [upd_other _ _ _ _ e]; exact h), root_fix L i h]

/-- a and b are joined by edges; m: the mates of the half-edges below N. -/
inductive Conn (m : Nat → Nat) (N : Nat) : Nat → Nat → Prop
  | refl (a : Nat) : Conn m N a a
  | step {a : Nat} (h : Nat) : h < N → Conn m N a (h / 4) → Conn m N a (m h / 4)
  | back {a : Nat} (h : Nat) : h < N → Conn m N a (m h / 4) → Conn m N a (h / 4)
theorem Conn.trans {m : Nat → Nat} {N a b c : Nat} (h : Conn m N a b) (k : Conn m N b c) : Conn m N a c := by
  induction k with
  | refl => exact h
  | step i hi _ ih => exact .step i hi ih
  | back i hi _ ih => exact .back i hi ih
theorem Conn.symm {m : Nat → Nat} {N a b : Nat} (h : Conn m N a b) : Conn m N b a := by
  induction h with
  | refl => exact .refl _
  | step i hi _ ih => exact (Conn.back i hi (.refl _)).trans ih
  | back i hi _ ih => exact (Conn.step i hi (.refl _)).trans ih

/-- F is the least number of each component. -/
def IsLab (m : Nat → Nat) (N n : Nat) (F : Nat → Nat) : Prop := (∀ c, c < n → F c ≤ c ∧ Conn m N c (F c)) ∧ ∀ h, h < N → F (h / 4) = F (m h / 4)
theorem IsLab.conn {m : Nat → Nat} {N n : Nat} {F : Nat → Nat} (h : IsLab m N n F) {a b : Nat} (hc : Conn m N a b) : F a = F b := by
  induction hc with
  | refl => rfl
  | step i hi _ ih => rw [ih, h.2 i hi]
  | back i hi _ ih => rw [ih, h.2 i hi]
theorem IsLab.unique {m : Nat → Nat} {N n : Nat} {F G : Nat → Nat} (h : IsLab m N n F) (k : IsLab m N n G) (c : Nat) (hc : c < n) : F c = G c := by
  obtain ⟨f1, f2⟩ := h.1 c hc
  obtain ⟨g1, g2⟩ := k.1 c hc
  have e1 : F c = F (G c) := h.conn g2
  have e2 : G c = G (F c) := k.conn f2
  have := (h.1 (G c) (by omega)).1
  have := (k.1 (F c) (by omega)).1
  omega

/-- The union step at half-edge h, and the forest after the first k half-edges. -/
def ufStep (m : Nat → Nat) (L : Nat → Nat) (h : Nat) : Nat → Nat :=
  upd L (max (root L (h / 4)) (root L (m h / 4))) (min (root L (h / 4)) (root L (m h / 4)))
def ufAt (m : Nat → Nat) : Nat → Nat → Nat
  | 0 => fun i => i
  | k + 1 => ufStep m (ufAt m k) k
def ufLab (m : Nat → Nat) (N : Nat) (c : Nat) : Nat := root (ufAt m N) c

theorem root_ufStep (m : Nat → Nat) (L : Nat → Nat) (h c : Nat) :
    root (ufStep m L h) c = if root L c = max (root L (h / 4)) (root L (m h / 4)) then min (root L (h / 4)) (root L (m h / 4)) else root L c := by
  have ha := root_is L (h / 4)
  have hb := root_is L (m h / 4)
  unfold ufStep
  generalize root L (h / 4) = a at *
  generalize root L (m h / 4) = b at *
  rcases Nat.lt_trichotomy a b with hlt | rfl | hgt
  · rw [Nat.max_eq_right (by omega), Nat.min_eq_left (by omega)]; exact root_union L a b hlt ha hb c
  · rw [Nat.max_self, Nat.min_self]
    have : root (upd L a a) c = root L c := by
      have h0 : root L a = a := root_fix L a ha
      have := root_compress L a c
      rwa [h0] at this
    rw [this]; split <;> simp_all
  · rw [Nat.max_eq_left (by omega), Nat.min_eq_right (by omega)]; exact root_union L b a hgt hb ha c

theorem ufAt_conn (m : Nat → Nat) (N k : Nat) (hk : k ≤ N) (c : Nat) : Conn m N c (root (ufAt m k) c) := by
  induction k generalizing c with
  | zero => rw [root_fix _ _ (by simp [ufAt])]; exact .refl _
  | succ k ih =>
    show Conn m N c (root (ufStep m (ufAt m k) k) c)
    rw [root_ufStep]
    have h0 := ih (by omega)
    have e : Conn m N (root (ufAt m k) (k / 4)) (root (ufAt m k) (m k / 4)) :=
      ((h0 _).symm.trans (Conn.step k (by omega) (.refl _))).trans (h0 _)
    split
    · rename_i hc
      have hcc := h0 c
      rw [hc] at hcc
      refine hcc.trans ?_
      rcases Nat.le_total (root (ufAt m k) (k / 4)) (root (ufAt m k) (m k / 4)) with hle | hle
      · rw [Nat.max_eq_right hle, Nat.min_eq_left hle]; exact e.symm
      · rw [Nat.max_eq_left hle, Nat.min_eq_right hle]; exact e
    · exact h0 c

theorem ufAt_joins (m : Nat → Nat) (k h : Nat) (hh : h < k) : root (ufAt m k) (h / 4) = root (ufAt m k) (m h / 4) := by
  induction k with
  | zero => omega
  | succ k ih =>
    show root (ufStep m (ufAt m k) k) _ = root (ufStep m (ufAt m k) k) _
    rw [root_ufStep, root_ufStep]
    by_cases e : h = k
    · subst e
      rcases Nat.le_total (root (ufAt m h) (h / 4)) (root (ufAt m h) (m h / 4)) with hle | hle
      · rw [Nat.max_eq_right hle, Nat.min_eq_left hle]; simp only [if_pos]; split <;> rfl
      · rw [Nat.max_eq_left hle, Nat.min_eq_right hle]; simp only [if_pos]; split <;> simp_all
    · rw [ih (by omega)]

theorem ufLab_isLab (m : Nat → Nat) (N n : Nat) : IsLab m N n (ufLab m N) :=
  ⟨fun c _ => ⟨root_le _ _, ufAt_conn m N N (Nat.le_refl _) c⟩, fun h hh => ufAt_joins m N h hh⟩

theorem ufAt_le (m : Nat → Nat) (k i : Nat) : ufAt m k i ≤ i := by
  induction k generalizing i with
  | zero => exact Nat.le_refl _
  | succ k ih =>
    show upd _ _ _ i ≤ i
    unfold upd
    split
    · rename_i e; rw [e]; omega
    · exact ih i

/-- The compression of the first k numbers. -/
def compAt (L : Nat → Nat) (k : Nat) : Nat → Nat := fun i => if i < k then root L i else L i
theorem root_comp (L : Nat → Nat) (k i : Nat) : root (compAt L k) i = root L i := by
  induction i using Nat.strongRecOn with
  | ind i ih =>
    by_cases hk : i < k
    · have e : compAt L k i = root L i := by simp [compAt, hk]
      by_cases h : root L i < i
      · rw [root_step _ _ (by rw [e]; exact h), e, ih _ h, root_root]
      · rw [root_fix _ _ (by rw [e]; exact h)]
        have := root_le L i; omega
    · have e : compAt L k i = L i := by simp [compAt, hk]
      by_cases h : L i < i
      · rw [root_step _ _ (by rw [e]; exact h), e, ih _ h, root_step L i h]
      · rw [root_fix _ _ (by rw [e]; exact h), root_fix L i h]
theorem comp_zero (L : Nat → Nat) : compAt L 0 = L := by funext i; simp [compAt]
theorem comp_succ (L : Nat → Nat) (k : Nat) : upd (compAt L k) k (root (compAt L k) k) = compAt L (k + 1) := by
  funext i
  unfold upd
  split
  · rename_i e; subst e; rw [root_comp]; simp [compAt]
  · rename_i e
    unfold compAt
    by_cases h : i < k
    · rw [if_pos h, if_pos (by omega)]
    · rw [if_neg h, if_neg (by omega)]
theorem comp_le (L : Nat → Nat) (hL : ∀ i, L i ≤ i) (k i : Nat) : compAt L k i ≤ i := by
  unfold compAt; split
  · exact root_le _ _
  · exact hL i

end Go.Proofs.Ytcllnoigppkjiaa
