/- Plain mathematics: the list of the components. -/
import Derived.Test.YtcllnoigppkjiaaOrbPlain
namespace Go.Proofs.Ytcllnoigppkjiaa

/-- The members below c of the component l. -/
def memb (F : Nat → Nat) (c l : Nat) : List Int := ((List.range c).filter (fun b => F b == l)).map (fun (b : Nat) => (b : Int))
/-- The least members below c. -/
def roots (F : Nat → Nat) (c : Nat) : List Nat := (List.range c).filter (fun l => F l == l)
def graphL (F : Nat → Nat) (c : Nat) : List (List Int) := (roots F c).map (memb F c)

theorem memb_succ (F : Nat → Nat) (c l : Nat) : memb F (c + 1) l = memb F c l ++ if F c == l then [(c : Int)] else [] := by
  unfold memb
  rw [List.range_succ, List.filter_append, List.map_append]
  cases h : F c == l <;> simp [h]
theorem roots_succ (F : Nat → Nat) (c : Nat) : roots F (c + 1) = roots F c ++ if F c == c then [c] else [] := by
  unfold roots
  rw [List.range_succ, List.filter_append]
  cases h : F c == c <;> simp [h]
theorem roots_lt {F : Nat → Nat} {c l : Nat} (h : l ∈ roots F c) : l < c ∧ F l = l := by
  unfold roots at h
  have := List.mem_filter.1 h
  exact ⟨List.mem_range.1 this.1, by simpa using this.2⟩
theorem memb_none {F : Nat → Nat} {c l : Nat} (hF : ∀ b, F b ≤ b) (hl : c ≤ l) : memb F c l = [] := by
  unfold memb
  have : (List.range c).filter (fun b => F b == l) = [] := List.filter_eq_nil_iff.2 fun b hb => by
    have := hF b
    have := List.mem_range.1 hb
    simp; omega
  rw [this]; rfl
/-- The place of the root l. -/
def plc (F : Nat → Nat) (l : Nat) : Nat := (roots F l).length
theorem graphL_new {F : Nat → Nat} {c : Nat} (hF : ∀ b, F b ≤ b) (h : F c = c) : graphL F (c + 1) = graphL F c ++ [[(c : Int)]] := by
  have hm : (roots F c).map (memb F (c + 1)) = (roots F c).map (memb F c) := List.map_congr_left fun l hl => by
    have := roots_lt hl
    rw [memb_succ, h]
    have hne : (c == l) = false := by simp; omega
    simp [hne]
  have hn : memb F (c + 1) c = [(c : Int)] := by rw [memb_succ, h, memb_none hF (Nat.le_refl _)]; simp
  unfold graphL
  rw [roots_succ, h]
  simp only [beq_self_eq_true, if_true, List.map_append, List.map_cons, List.map_nil]
  rw [hm, hn]
theorem roots_split {F : Nat → Nat} {c l : Nat} (hl : l < c) (h : F l = l) : ∃ r, roots F c = roots F l ++ l :: r ∧ ∀ x ∈ r, x ≠ l := by
  induction c with
  | zero => omega
  | succ c ih =>
    by_cases e : l = c
    · subst e
      exact ⟨[], by rw [roots_succ, h]; simp, fun x hx => by cases hx⟩
    · obtain ⟨r, h1, h2⟩ := ih (by omega)
      rw [roots_succ, h1]
      refine ⟨r ++ if F c == c then [c] else [], by simp, fun x hx => ?_⟩
      rcases List.mem_append.1 hx with h3 | h3
      · exact h2 x h3
      · split at h3
        · simp at h3; omega
        · cases h3
theorem graphL_old {F : Nat → Nat} {c : Nat} (hlt : F c < c) (hid : F (F c) = F c) :
    plc F (F c) < (graphL F c).length ∧ (graphL F c).getD (plc F (F c)) [] = memb F c (F c) ∧ graphL F (c + 1) = (graphL F c).set (plc F (F c)) (memb F c (F c) ++ [(c : Int)]) := by
  obtain ⟨r, h1, h2⟩ := roots_split hlt hid
  have hp : plc F (F c) = ((roots F (F c)).map (memb F c)).length := by simp [plc]
  have hg : graphL F c = (roots F (F c)).map (memb F c) ++ memb F c (F c) :: r.map (memb F c) := by unfold graphL; rw [h1]; simp
  refine ⟨by rw [hg, hp]; simp, by rw [hg, hp]; simp [List.getD], ?_⟩
  rw [hg, hp, List.set_append_right _ _ (Nat.le_refl _)]
  simp only [Nat.sub_self, List.set_cons_zero]
  have hne : (F c == c) = false := by simp; omega
  unfold graphL
  rw [roots_succ, hne, h1]
  simp only [Bool.false_eq_true, if_false, List.append_nil, List.map_append, List.map_cons]
  have e1 : ∀ x, x ≠ F c → memb F (c + 1) x = memb F c x := fun x hx => by
    rw [memb_succ]
    have : (F c == x) = false := by simp; exact fun e => hx e.symm
    simp [this]
  have e2 : (roots F (F c)).map (memb F (c + 1)) = (roots F (F c)).map (memb F c) := List.map_congr_left fun x hx => e1 x (by have := roots_lt hx; omega)
  have e3 : r.map (memb F (c + 1)) = r.map (memb F c) := List.map_congr_left fun x hx => e1 x (h2 x hx)
  have e4 : memb F (c + 1) (F c) = memb F c (F c) ++ [(c : Int)] := by rw [memb_succ]; simp
  rw [e2, e3, e4]
theorem graphL_length (F : Nat → Nat) (c : Nat) : (graphL F c).length = (roots F c).length := by simp [graphL]
theorem roots_length (F : Nat → Nat) (c : Nat) : (roots F c).length ≤ c := by
  unfold roots; exact Nat.le_trans (List.length_filter_le _ _) (by simp)
theorem memb_length (F : Nat → Nat) (c l : Nat) : (memb F c l).length ≤ c := by
  unfold memb; rw [List.length_map]; exact Nat.le_trans (List.length_filter_le _ _) (by simp)

end Go.Proofs.Ytcllnoigppkjiaa
