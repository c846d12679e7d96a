/- Plain mathematics: each half-edge bears the index of its face: painted face by face. -/
import Derived.Test.YtcngpnhecgppiaaOrbPlain
namespace Go.Proofs.Ytcngpnhecgppiaa

/-- The least half-edge of each face, ascending. -/
def reps (f : Nat → Nat) (N : Nat) : List Nat := (List.range N).filter (fst f N)
theorem reps_mem {f : Nat → Nat} {N h : Nat} : h ∈ reps f N ↔ h < N ∧ fst f N h = true := by simp [reps, List.mem_filter]
theorem reps_nodup (f : Nat → Nat) (N : Nat) : (reps f N).Nodup := List.Pairwise.filter _ List.nodup_range
theorem reps_at {f : Nat → Nat} {N a : Nat} (ha : a < (reps f N).length) : (reps f N).getD a 0 < N ∧ fst f N ((reps f N).getD a 0) = true := by
  have e : (reps f N).getD a 0 = (reps f N)[a] := by simp [List.getD, ha]
  rw [e]
  exact reps_mem.1 (List.getElem_mem ha)
theorem reps_uniq {f : Nat → Nat} {N a b x : Nat} (p : Perm f N) (ha : a < (reps f N).length) (hb : b < (reps f N).length) (h1 : Orb f ((reps f N).getD a 0) x) (h2 : Orb f ((reps f N).getD b 0) x) : a = b := by
  obtain ⟨a1, a2⟩ := reps_at ha
  obtain ⟨b1, b2⟩ := reps_at hb
  have o1 := h1.trans (p.orb_symm b1 h2)
  have o2 := h2.trans (p.orb_symm a1 h1)
  have ha' := (p.fst_iff a1).1 a2
  have hb' := (p.fst_iff b1).1 b2
  have e : (reps f N).getD a 0 = (reps f N).getD b 0 := by
    rcases Nat.lt_trichotomy ((reps f N).getD a 0) ((reps f N).getD b 0) with k | k | k
    · exact absurd o1 (hb' _ k)
    · exact k
    · exact absurd o2 (ha' _ k)
  have ea : (reps f N).getD a 0 = (reps f N)[a] := by simp [List.getD, ha]
  have eb : (reps f N).getD b 0 = (reps f N)[b] := by simp [List.getD, hb]
  rw [ea, eb] at e
  exact (List.getElem_inj (reps_nodup f N)).1 e
theorem reps_ex {f : Nat → Nat} {N x : Nat} (p : Perm f N) (hx : x < N) : ∃ a, a < (reps f N).length ∧ Orb f ((reps f N).getD a 0) x := by
  obtain ⟨y, hy, hmin⟩ : ∃ y, (y < N ∧ Orb f y x) ∧ ∀ z, z < y → ¬ (z < N ∧ Orb f z x) := by
    have key : ∀ y, (y < N ∧ Orb f y x) → ∃ y, (y < N ∧ Orb f y x) ∧ ∀ z, z < y → ¬ (z < N ∧ Orb f z x) := by
      intro y
      induction y using Nat.strongRecOn with
      | ind y ih =>
        intro hy
        by_cases e : ∃ z, z < y ∧ (z < N ∧ Orb f z x)
        · obtain ⟨z, hz, hp⟩ := e; exact ih z hz hp
        · exact ⟨y, hy, fun z hz hp => e ⟨z, hz, hp⟩⟩
    exact key x ⟨hx, Orb.refl f x⟩
  have hf : fst f N y = true := (p.fst_iff hy.1).2 fun h' hlt o => hmin h' hlt ⟨by omega, o.trans hy.2⟩
  obtain ⟨a, ha, e⟩ := List.getElem_of_mem (reps_mem.2 ⟨hy.1, hf⟩)
  exact ⟨a, ha, by have e2 : (reps f N).getD a 0 = (reps f N)[a] := by simp [List.getD, ha]
                   rw [e2, e]; exact hy.2⟩

/-- The first j of the cycle of h get the colour i. -/
def paintRow (f : Nat → Nat) (h i : Nat) : Nat → (Nat → Int) → Nat → Int
  | 0, V => V
  | j + 1, V => fun x => if x = it f j h then (i : Int) else paintRow f h i j V x
theorem paintRow_in {f : Nat → Nat} {h i j q : Nat} {V : Nat → Int} (hq : q < j) : paintRow f h i j V (it f q h) = i := by
  induction j with
  | zero => omega
  | succ j ih =>
    show (if it f q h = it f j h then (i : Int) else paintRow f h i j V (it f q h)) = i
    by_cases e : q = j
    · rw [e]; simp
    · split
      · rfl
      · exact ih (by omega)
theorem paintRow_out {f : Nat → Nat} {h i j x : Nat} {V : Nat → Int} (hx : ∀ q, q < j → it f q h ≠ x) : paintRow f h i j V x = V x := by
  induction j with
  | zero => rfl
  | succ j ih =>
    show (if x = it f j h then (i : Int) else paintRow f h i j V x) = V x
    rw [if_neg (fun e => hx j (by omega) e.symm)]
    exact ih fun q hq => hx q (by omega)
/-- The first i faces painted. -/
def paint (f : Nat → Nat) (N : Nat) : Nat → Nat → Int
  | 0 => fun _ => -1
  | i + 1 => paintRow f ((reps f N).getD i 0) i (per f N ((reps f N).getD i 0)) (paint f N i)
theorem paint_done {f : Nat → Nat} {N i a x : Nat} (p : Perm f N) (hi : i ≤ (reps f N).length) (ha : a < i) (o : Orb f ((reps f N).getD a 0) x) : paint f N i x = a := by
  induction i with
  | zero => omega
  | succ i ih =>
    show paintRow f _ i _ (paint f N i) x = a
    obtain ⟨r1, _⟩ := reps_at (f := f) (N := N) (a := i) (by omega)
    by_cases e : a = i
    · subst e
      obtain ⟨q, hq, k⟩ := p.orb_lt r1 o
      rw [← k]; exact paintRow_in hq
    · rw [paintRow_out fun q _ k => e (reps_uniq p (by omega) (by omega) o ⟨q, k⟩)]
      exact ih (by omega) (by omega)
theorem paint_todo {f : Nat → Nat} {N i a x : Nat} (p : Perm f N) (hi : i ≤ a) (ha : a < (reps f N).length) (o : Orb f ((reps f N).getD a 0) x) : paint f N i x = -1 := by
  induction i with
  | zero => rfl
  | succ i ih =>
    show paintRow f _ i _ (paint f N i) x = -1
    rw [paintRow_out fun q _ k => by have := reps_uniq p ha (by omega) o ⟨q, k⟩; omega]
    exact ih (by omega)
/-- What is met next has not been painted. -/
theorem paint_next {f : Nat → Nat} {N i j : Nat} (p : Perm f N) (hi : i < (reps f N).length) (hj : j < per f N ((reps f N).getD i 0)) :
    it f j ((reps f N).getD i 0) < N ∧ paintRow f ((reps f N).getD i 0) i j (paint f N i) (it f j ((reps f N).getD i 0)) = -1 := by
  obtain ⟨r1, _⟩ := reps_at hi
  refine ⟨p.it_lt r1 j, ?_⟩
  rw [paintRow_out fun q hq => p.it_ne r1 hq hj]
  exact paint_todo p (Nat.le_refl _) hi ⟨j, rfl⟩
/-- All faces painted: half-edges of one colour lie in one face. -/
theorem paint_all {f : Nat → Nat} {N x : Nat} (p : Perm f N) (hx : x < N) : paint f N (reps f N).length x ≠ -1 := by
  obtain ⟨a, ha, o⟩ := reps_ex p hx
  rw [paint_done p (Nat.le_refl _) ha o]; omega
theorem paint_same {f : Nat → Nat} {N x y : Nat} (p : Perm f N) (hx : x < N) (hy : y < N) (e : paint f N (reps f N).length x = paint f N (reps f N).length y) : Orb f x y := by
  obtain ⟨a, ha, o⟩ := reps_ex p hx
  obtain ⟨b, hb, q⟩ := reps_ex p hy
  rw [paint_done p (Nat.le_refl _) ha o, paint_done p (Nat.le_refl _) hb q] at e
  have e' : a = b := by omega
  subst e'
  exact (p.orb_symm (reps_at ha).1 o).trans q

end Go.Proofs.Ytcngpnhecgppiaa
