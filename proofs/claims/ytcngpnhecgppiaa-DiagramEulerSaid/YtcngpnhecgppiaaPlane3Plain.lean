/- Plain mathematics: the count of the faces of all components together; the two sides of an edge of a diagram that is drawn on spheres. -/
import Derived.Test.YtcngpnhecgppiaaPlane2Plain
namespace Go.Proofs.Ytcngpnhecgppiaa

def sumN (f : Nat → Nat) : Nat → Nat
  | 0 => 0
  | n + 1 => sumN f n + f n
theorem sumN_add (f g : Nat → Nat) (n : Nat) : sumN (fun l => f l + g l) n = sumN f n + sumN g n := by
  induction n with
  | zero => rfl
  | succ n ih => show sumN _ n + (f n + g n) = sumN f n + f n + (sumN g n + g n); rw [ih]; omega
theorem sumN_congr {f g : Nat → Nat} {n : Nat} (h : ∀ l, l < n → f l = g l) : sumN f n = sumN g n := by
  induction n with
  | zero => rfl
  | succ n ih => show sumN f n + f n = sumN g n + g n; rw [ih fun l hl => h l (by omega), h n (by omega)]
theorem sumN_zero (n : Nat) : sumN (fun _ => 0) n = 0 := by
  induction n with
  | zero => rfl
  | succ n ih => show sumN _ n + 0 = 0; rw [ih]
theorem sumN_one {c n : Nat} (hc : c < n) : sumN (fun l => if c == l then 1 else 0) n = 1 := by
  induction n with
  | zero => omega
  | succ n ih =>
    show sumN _ n + _ = 1
    by_cases h : c = n
    · have : sumN (fun l => if c == l then 1 else 0) n = 0 := by
        rw [sumN_congr (g := fun _ => 0) fun l hl => by simp; omega]; exact sumN_zero n
      rw [this]; simp [h]
    · rw [ih (by omega)]; simp [h]
/-- Counted by labels, and all at once. -/
theorem count_by (p : Nat → Bool) (G : Nat → Nat) (n : Nat) : ∀ N, (∀ x, x < N → G x < n) → sumN (fun l => (List.range N).countP fun x => p x && G x == l) n = (List.range N).countP p := by
  intro N
  induction N with
  | zero => intro _; simp; exact sumN_zero n
  | succ N ih =>
    intro h
    rw [List.range_succ, List.countP_append, ← ih fun x hx => h x (by omega)]
    have e : ∀ l, l < n → ((List.range N ++ [N]).countP fun x => p x && G x == l) = ((List.range N).countP fun x => p x && G x == l) + (if p N then (if G N == l then 1 else 0) else 0) := fun l _ => by
      rw [List.countP_append]
      cases hp : p N <;> simp [hp, List.countP_cons]
    rw [sumN_congr e, sumN_add]
    congr 1
    cases hp : p N with
    | true => simpa [hp] using sumN_one (h N (by omega))
    | false => simpa [hp] using sumN_zero n

def rootsN (F : Nat → Nat) (n : Nat) : Nat := (List.range n).countP fun l => F l == l
/-- Faces = crossings + 2 components, over all components. -/
theorem euler_all {F f : Nat → Nat} {n : Nat} (hs : sphB F f (4 * n) n = true) (hle : ∀ c, F c ≤ c) (hid : ∀ c, F (F c) = F c) : (List.range (4 * n)).countP (fst f (4 * n)) = n + 2 * rootsN F n := by
  have h1 := count_by (fst f (4 * n)) (fun x => F (x / 4)) n (4 * n) (fun x hx => by have := hle (x / 4); omega)
  have h2 := count_by (fun _ => true) F n n (fun x hx => by have := hle x; omega)
  have h3 : (List.range n).countP (fun _ => true) = n := by simp
  rw [h3] at h2
  have h4 : sumN (fun l => if F l == l then 1 else 0) n = rootsN F n := by
    have : ∀ k, sumN (fun l => if F l == l then 1 else 0) k = rootsN F k := by
      intro k
      induction k with
      | zero => rfl
      | succ k ih => show sumN _ k + _ = _; rw [ih]; unfold rootsN; rw [List.range_succ, List.countP_append]; simp [List.countP_cons]
    exact this n
  have h5 : ∀ l, l < n → ((List.range (4 * n)).countP fun x => fst f (4 * n) x && F (x / 4) == l) = (((List.range n).countP fun x => true && F x == l) + (if F l == l then 1 else 0)) + (if F l == l then 1 else 0) := fun l hl => by
    by_cases hr : F l = l
    · have := (sphB_iff _ _ _ _).1 hs l hl
      rw [hr] at this
      unfold cntF cntV at this
      simp only [Bool.true_and]
      rw [this]; simp [hr]
    · have e1 : ((List.range (4 * n)).countP fun x => fst f (4 * n) x && F (x / 4) == l) = 0 := by
        rw [List.countP_eq_zero]
        intro x _ q
        simp only [Bool.and_eq_true, beq_iff_eq] at q
        exact hr (by rw [← q.2, hid])
      have e2 : ((List.range n).countP fun x => true && F x == l) = 0 := by
        rw [List.countP_eq_zero]
        intro x _ q
        simp only [Bool.true_and, beq_iff_eq] at q
        exact hr (by rw [← q, hid])
      rw [e1, e2]; simp [hr]
  rw [sumN_congr h5, sumN_add, sumN_add, h2, h4] at h1
  omega

theorem cls_orb {f : Nat → Nat} {N : Nat} (p : Perm f N) : Cls (RO' f N) N ((List.range N).countP (fst f N)) :=
  (Cnt.countP (fst f N) N).congr fun x hx => by
    rw [p.fst_iff hx]
    exact ⟨fun q g hg o => q g hg o.2, fun q g hg o => q g hg ⟨by omega, o⟩⟩
theorem cls_lab {F : Nat → Nat} {n : Nat} (hle : ∀ c, F c ≤ c) (hid : ∀ c, F (F c) = F c) : Cls (fun x y => x < 4 * n ∧ y < 4 * n ∧ F (x / 4) = F (y / 4)) (4 * n) (rootsN F n) := by
  have h := (Cnt.countP (fun l => F l == l) n).firsts
  refine h.congr fun x hx => ⟨fun q g hg o => ?_, fun q => ?_⟩
  · obtain ⟨q1, q2⟩ := q
    have q3 : F (x / 4) = x / 4 := by simpa using q2
    have := hle (g / 4)
    rw [o.2.2, q3] at this
    omega
  · have hl := hle (x / 4)
    have h4 : x % 4 = 0 := by
      by_cases h0 : x % 4 = 0
      · exact h0
      · exact absurd ⟨by omega, hx, by rw [show (x - x % 4) / 4 = x / 4 by omega]⟩ (q (x - x % 4) (by omega))
    refine ⟨h4, ?_⟩
    have : F (x / 4) = x / 4 := by
      by_cases h0 : F (x / 4) = x / 4
      · exact h0
      · refine absurd ⟨by omega, hx, ?_⟩ (q (4 * F (x / 4)) (by omega))
        rw [show 4 * F (x / 4) / 4 = F (x / 4) by omega, hid]
    simpa using this

/-- In a diagram that is drawn on spheres the two sides of an edge are different faces. -/
theorem sides_sph {m : Nat → Nat} {n : Nat} (i : Invol m (4 * n)) (hfix : ∀ x, x < 4 * n → m x ≠ x) (hs : sphB (ufLab m (4 * n)) (fun x => trn (m x) 3) (4 * n) n = true) (h : Nat) (hh : h < 4 * n) : ¬ Orb (fun x => trn (m x) 3) h (m h) := by
  have hle : ∀ c, ufLab m (4 * n) c ≤ c := fun c => root_le _ _
  have hid : ∀ c, ufLab m (4 * n) (ufLab m (4 * n) c) = ufLab m (4 * n) c := fun c => root_root _ _
  have hlab := ufLab_isLab m (4 * n) n
  generalize ufLab m (4 * n) = F at *
  refine sides i hfix (D := fun x y => x < 4 * n ∧ y < 4 * n ∧ F (x / 4) = F (y / 4)) ⟨fun x y q => ⟨q.1, q.2.1⟩, fun x hx => ⟨hx, hx, rfl⟩, fun x y q => ⟨q.2.1, q.1, q.2.2.symm⟩, fun x y z q r => ⟨q.1, r.2.1, q.2.2.trans r.2.2⟩⟩
    (fun x y hx hy e => ⟨hx, hy, by rw [e]⟩) (fun x hx => ⟨hx, i.lt x hx, hlab.2 x hx⟩) ?_ (cls_orb (i.perm 3)) (cls_lab hle hid) (euler_all hs hle hid) h hh
  intro C hC h1 h2 x y hd
  have key : ∀ {a b : Nat}, Conn m (4 * n) a b → a < n → b < n ∧ C (4 * a) (4 * b) := by
    intro a b hc ha
    induction hc with
    | refl => exact ⟨ha, hC.refl _ (by omega)⟩
    | step z hz _ ih =>
      have hm := i.lt z hz
      exact ⟨by omega, hC.trans _ _ _ ih.2 (hC.trans _ _ _ (h1 _ z (by omega) hz (by omega)) (hC.trans _ _ _ (h2 z hz) (h1 _ _ hm (by omega) (by omega))))⟩
    | back z hz _ ih =>
      have hm := i.lt z hz
      exact ⟨by omega, hC.trans _ _ _ ih.2 (hC.trans _ _ _ (h1 _ (m z) (by omega) hm (by omega)) (hC.trans _ _ _ (hC.symm _ _ (h2 z hz)) (h1 _ _ hz (by omega) (by omega))))⟩
  obtain ⟨hx, hy, e⟩ := hd
  have c1 := (hlab.1 (x / 4) (by omega)).2
  have c2 := (hlab.1 (y / 4) (by omega)).2
  rw [e] at c1
  have := (key (c1.trans c2.symm) (by omega)).2
  exact hC.trans _ _ _ (h1 x _ hx (by omega) (by omega)) (hC.trans _ _ _ this (h1 _ y (by omega) hy (by omega)))

end Go.Proofs.Ytcngpnhecgppiaa
