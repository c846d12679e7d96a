/- Plain mathematics: the cycles of a permutation of the numbers below N. -/
import Derived.Test.YtcllnoigppkjiaaUfPlain
namespace Go.Proofs.Ytcllnoigppkjiaa

def it (f : Nat → Nat) : Nat → Nat → Nat
  | 0, h => h
  | i + 1, h => f (it f i h)
theorem it_add (f : Nat → Nat) (i j h : Nat) : it f (i + j) h = it f i (it f j h) := by
  induction i with
  | zero => simp [it]
  | succ i ih => rw [Nat.succ_add]; show f _ = f _; rw [ih]

structure Perm (f : Nat → Nat) (N : Nat) : Prop where
  lt : ∀ h, h < N → f h < N
  inj : ∀ h g, h < N → g < N → f h = f g → h = g

theorem Perm.it_lt {f : Nat → Nat} {N : Nat} (p : Perm f N) {h : Nat} (hh : h < N) (i : Nat) : it f i h < N := by
  induction i with
  | zero => exact hh
  | succ i ih => exact p.lt _ ih
theorem Perm.it_inj {f : Nat → Nat} {N : Nat} (p : Perm f N) {h g : Nat} (hh : h < N) (hg : g < N) (i : Nat) (e : it f i h = it f i g) : h = g := by
  induction i with
  | zero => exact e
  | succ i ih => exact ih (p.inj _ _ (p.it_lt hh i) (p.it_lt hg i) e)

theorem pigeon (N : Nat) : ∀ g : Nat → Nat, (∀ i, i ≤ N → g i < N) → ∃ i j, i < j ∧ j ≤ N ∧ g i = g j := by
  induction N with
  | zero => intro g h; exact absurd (h 0 (Nat.le_refl _)) (by omega)
  | succ N ih =>
    intro g h
    by_cases hx : ∃ i, i ≤ N ∧ g i = g (N + 1)
    · obtain ⟨i, hi, e⟩ := hx
      exact ⟨i, N + 1, by omega, Nat.le_refl _, e⟩
    · have hne : ∀ i, i ≤ N → g i ≠ g (N + 1) := fun i hi e => hx ⟨i, hi, e⟩
      have hl := h (N + 1) (Nat.le_refl _)
      obtain ⟨i, j, hij, hj, e⟩ := ih (fun i => if g i = N then g (N + 1) else g i) (fun i hi => by
        have h1 := h i (by omega)
        have h2 := hne i hi
        show (if g i = N then g (N + 1) else g i) < N
        split <;> omega)
      refine ⟨i, j, hij, by omega, ?_⟩
      have h1 := hne i (by omega)
      have h2 := hne j hj
      have e' : (if g i = N then g (N + 1) else g i) = (if g j = N then g (N + 1) else g j) := e
      split at e' <;> split at e' <;> omega

theorem Perm.returns {f : Nat → Nat} {N : Nat} (p : Perm f N) {h : Nat} (hh : h < N) : ∃ q, q < N ∧ it f (q + 1) h = h := by
  obtain ⟨i, j, hij, hj, e⟩ := pigeon N (fun i => it f i h) (fun i _ => p.it_lt hh i)
  refine ⟨j - i - 1, by omega, ?_⟩
  have e' : it f i (it f (j - i) h) = it f i h := by rw [← it_add, show i + (j - i) = j by omega]; exact e.symm
  have := p.it_inj (p.it_lt hh _) hh i e'
  rw [show j - i - 1 + 1 = j - i by omega]; exact this

/-- The length of the cycle of h. -/
def per (f : Nat → Nat) (N h : Nat) : Nat := ((List.range N).find? (fun q => it f (q + 1) h == h)).getD 0 + 1
theorem per_pos (f : Nat → Nat) (N h : Nat) : 0 < per f N h := by unfold per; omega
theorem Perm.per_spec {f : Nat → Nat} {N : Nat} (p : Perm f N) {h : Nat} (hh : h < N) :
    it f (per f N h) h = h ∧ per f N h ≤ N ∧ ∀ q, 0 < q → q < per f N h → it f q h ≠ h := by
  obtain ⟨q, hq, e⟩ := p.returns hh
  unfold per
  cases hf : (List.range N).find? (fun q => it f (q + 1) h == h) with
  | none =>
    have := List.find?_eq_none.1 hf q (by simpa using hq)
    simp [e] at this
  | some r =>
    have hr := List.find?_some hf
    simp only [Option.getD_some]
    have hm : r < N := by have := List.mem_of_find?_eq_some hf; simpa using this
    refine ⟨by simpa using hr, by omega, fun q h0 hq e => ?_⟩
    obtain ⟨_, as, bs, hs, hall⟩ := List.find?_eq_some_iff_append.1 hf
    have hx : q - 1 ∈ as := by
      have hl : as.length = r := by
        have h1 : (List.range N)[as.length]? = some r := by rw [hs]; simp
        have h2 := List.getElem?_eq_some_iff.1 h1
        obtain ⟨h3, h4⟩ := h2
        simp at h4; omega
      have h1 : (List.range N)[q - 1]? = as[q - 1]? := by rw [hs, List.getElem?_append_left (by omega)]
      have h2 : (List.range N)[q - 1]? = some (q - 1) := by rw [List.getElem?_range]; omega
      rw [h2] at h1
      exact List.mem_of_getElem? h1.symm
    have := hall _ hx
    rw [show q - 1 + 1 = q by omega] at this
    simp [e] at this

theorem Perm.it_ne {f : Nat → Nat} {N : Nat} (p : Perm f N) {h : Nat} (hh : h < N) {i j : Nat} (hij : i < j) (hj : j < per f N h) : it f i h ≠ it f j h := fun e => by
  have e' : it f i (it f (j - i) h) = it f i h := by rw [← it_add, show i + (j - i) = j by omega]; exact e.symm
  exact (p.per_spec hh).2.2 (j - i) (by omega) (by omega) (p.it_inj (p.it_lt hh _) hh i e')

/-- g is on the cycle of h. -/
def Orb (f : Nat → Nat) (h g : Nat) : Prop := ∃ i, it f i h = g
theorem Perm.orb_lt {f : Nat → Nat} {N : Nat} (p : Perm f N) {h g : Nat} (hh : h < N) (o : Orb f h g) : ∃ i, i < per f N h ∧ it f i h = g := by
  obtain ⟨i, rfl⟩ := o
  induction i using Nat.strongRecOn with
  | ind i ih =>
    by_cases hi : i < per f N h
    · exact ⟨i, hi, rfl⟩
    · obtain ⟨j, hj, e⟩ := ih (i - per f N h) (by have := per_pos f N h; omega)
      refine ⟨j, hj, ?_⟩
      rw [e]
      have := it_add f (i - per f N h) (per f N h) h
      rw [(p.per_spec hh).1, show i - per f N h + per f N h = i by omega] at this
      exact this.symm
theorem Orb.refl (f : Nat → Nat) (h : Nat) : Orb f h h := ⟨0, rfl⟩
theorem Orb.trans {f : Nat → Nat} {a b c : Nat} (h : Orb f a b) (k : Orb f b c) : Orb f a c := by
  obtain ⟨i, rfl⟩ := h
  obtain ⟨j, rfl⟩ := k
  exact ⟨j + i, it_add f j i a⟩
theorem Perm.orb_symm {f : Nat → Nat} {N : Nat} (p : Perm f N) {h g : Nat} (hh : h < N) (o : Orb f h g) : Orb f g h := by
  obtain ⟨i, hi, rfl⟩ := p.orb_lt hh o
  refine ⟨per f N h - i, ?_⟩
  rw [← it_add, show per f N h - i + i = per f N h by omega]
  exact (p.per_spec hh).1

/-- The cycle that begins with h. -/
def cyc (f : Nat → Nat) (N h : Nat) : List Nat := (List.range (per f N h)).map (it f · h)
/-- Is h the least of its cycle? -/
def fst (f : Nat → Nat) (N h : Nat) : Bool := (cyc f N h).all (fun g => decide (h ≤ g))
theorem Perm.mem_cyc {f : Nat → Nat} {N : Nat} (p : Perm f N) {h : Nat} (hh : h < N) (g : Nat) : g ∈ cyc f N h ↔ Orb f h g := by
  unfold cyc
  simp only [List.mem_map, List.mem_range]
  constructor
  · rintro ⟨i, _, e⟩; exact ⟨i, e⟩
  · exact fun o => p.orb_lt hh o
theorem Perm.fst_iff {f : Nat → Nat} {N : Nat} (p : Perm f N) {h : Nat} (hh : h < N) : fst f N h = true ↔ ∀ h', h' < h → ¬ Orb f h' h := by
  unfold fst
  rw [List.all_eq_true]
  constructor
  · intro H h' hlt o
    have := H h' ((p.mem_cyc hh h').2 (p.orb_symm (by omega) o))
    simp at this; omega
  · intro H g hg
    have o := (p.mem_cyc hh g).1 hg
    obtain ⟨i, _, e⟩ := p.orb_lt hh o
    have hgN : g < N := by rw [← e]; exact p.it_lt hh i
    simp only [decide_eq_true_eq]
    by_cases hlt : g < h
    · exact absurd (p.orb_symm hh o) (H g hlt)
    · omega

/-- Faces and crossings with the label l; the count for each component. -/
def cntF (F f : Nat → Nat) (N k l : Nat) : Nat := (List.range k).countP (fun h => fst f N h && F (h / 4) == l)
def cntV (F : Nat → Nat) (k l : Nat) : Nat := (List.range k).countP (fun c => F c == l)
theorem cntF_succ (F f : Nat → Nat) (N k l : Nat) : cntF F f N (k + 1) l = cntF F f N k l + if fst f N k && F (k / 4) == l then 1 else 0 := by
  unfold cntF; rw [List.range_succ, List.countP_append]; simp [List.countP_cons]
theorem cntV_succ (F : Nat → Nat) (k l : Nat) : cntV F (k + 1) l = cntV F k l + if F k == l then 1 else 0 := by
  unfold cntV; rw [List.range_succ, List.countP_append]; simp [List.countP_cons]
def sphB (F f : Nat → Nat) (N n : Nat) : Bool := (List.range n).all fun c => decide (cntF F f N N (F c) = cntV F n (F c) + 2)
theorem cntF_congr {F G f : Nat → Nat} {N n k : Nat} (h : ∀ c, c < n → F c = G c) (hk : k ≤ 4 * n) (l : Nat) : cntF F f N k l = cntF G f N k l := by
  induction k with
  | zero => rfl
  | succ k ih => rw [cntF_succ, cntF_succ, ih (by omega), h (k / 4) (by omega)]
theorem cntV_congr {F G : Nat → Nat} {n k : Nat} (h : ∀ c, c < n → F c = G c) (hk : k ≤ n) (l : Nat) : cntV F k l = cntV G k l := by
  induction k with
  | zero => rfl
  | succ k ih => rw [cntV_succ, cntV_succ, ih (by omega), h k (by omega)]
theorem sphB_iff (F f : Nat → Nat) (N n : Nat) : sphB F f N n = true ↔ ∀ c, c < n → cntF F f N N (F c) = cntV F n (F c) + 2 := by
  unfold sphB; simp [List.all_eq_true]
theorem sphB_congr {F G f : Nat → Nat} {n : Nat} (h : ∀ c, c < n → F c = G c) : sphB F f (4 * n) n = sphB G f (4 * n) n := by
  rw [Bool.eq_iff_iff, sphB_iff, sphB_iff]
  constructor <;> intro H c hc <;> have := H c hc
  · rw [h c hc, cntF_congr h (Nat.le_refl _), cntV_congr h (Nat.le_refl _)] at this; exact this
  · rw [h c hc, cntF_congr h (Nat.le_refl _), cntV_congr h (Nat.le_refl _)]; exact this

/-- The turn of a half-edge by s slots. -/
def trn (h s : Nat) : Nat := h - h % 4 + (h % 4 + s) % 4
theorem trn_lt {h s n : Nat} (hh : h < 4 * n) : trn h s < 4 * n := by unfold trn; omega
theorem trn_div (h s : Nat) : trn h s / 4 = h / 4 := by unfold trn; omega
theorem trn_inj {s a b : Nat} (e : trn a s = trn b s) : a = b := by unfold trn at e; omega

/-- m is an involution of the half-edges below N. -/
structure Invol (m : Nat → Nat) (N : Nat) : Prop where
  lt : ∀ h, h < N → m h < N
  inv : ∀ h, h < N → m (m h) = h
theorem Invol.perm {m : Nat → Nat} {n : Nat} (i : Invol m (4 * n)) (s : Nat) : Perm (fun h => trn (m h) s) (4 * n) :=
  ⟨fun h hh => trn_lt (i.lt h hh), fun h g hh hg e => by
    have := trn_inj e
    rw [← i.inv h hh, ← i.inv g hg, this]⟩

end Go.Proofs.Ytcllnoigppkjiaa
