import Derived.Test.YtdacjnmfmhkpiaaGreatDoorD11
import Derived.Test.YtdacjnmfmhkpiaaGreatDoorD04
import Derived.Test.YtdacjnmfmhkpiaaGreatDoorD09
import Derived.Test.YtdacjnmfmhkpiaaGreatDoorD10
/- Plain mathematics: the count of the faces of all components together; the two sides of an edge of a diagram that is drawn on spheres. -/
namespace Go.Proofs.YtdacjnmfmhkpiaaGreatDoor

def sumN (f : Nat → Nat) : Nat → Nat
  | 0 => 0
  | n + 1 => sumN f n + f n
theorem sumN_add (f g : Nat → Nat) (n : Nat) : sumN (fun l => f l + g l) n = sumN f n + sumN g n := by
  induction n with
  | zero => rfl
  | succ n ih => show sumN _ n + (f n + g n) = sumN f n + f n + (sumN g n + g n); rw [ih]; omega
theorem sumN_congr {f g : Nat → Nat} {n : Nat} (h : ∀ l, l < n → f l = g l) : sumN f n = sumN g n := by
  induction n with
  | zero => rfl
  | succ n ih => show sumN f n + f n = sumN g n + g n; rw [ih fun l hl => h l (by omega), h n (by omega)]
theorem sumN_zero (n : Nat) : sumN (fun _ => 0) n = 0 := by
  induction n with
  | zero => rfl
  | succ n ih => show sumN _ n + 0 = 0; rw [ih]
theorem sumN_one {c n : Nat} (hc : c < n) : sumN (fun l => if c == l then 1 else 0) n = 1 := by
  induction n with
  | zero => omega
  | succ n ih =>
    show sumN _ n + _ = 1
    by_cases h : c = n
    · have : sumN (fun l => if c == l then 1 else 0) n = 0 := by
        rw [sumN_congr (g := fun _ => 0) fun l hl => by simp; omega]; exact sumN_zero n
      rw [this]; simp [h]
    · rw [ih (by omega)]; simp [h]
/-- Counted by labels, and all at once. -/
theorem count_by (p : Nat → Bool) (G : Nat → Nat) (n : Nat) : ∀ N, (∀ x, x < N → G x < n) → sumN (fun l => (List.range N).countP fun x => p x && G x == l) n = (List.range N).countP p := by
  intro N
  induction N with
  | zero => intro _; simp; exact sumN_zero n
  | succ N ih =>
    intro h
    rw [List.range_succ, List.countP_append, ← ih fun x hx => h x (by omega)]
    have e : ∀ l, l < n → ((List.range N ++ [N]).countP fun x => p x && G x == l) = ((List.range N).countP fun x => p x && G x == l) + (if p N then (if G N == l then 1 else 0) else 0) := fun l _ => by
      rw [List.countP_append]
      cases hp : p N <;> simp [hp, List.countP_cons]
    rw [sumN_congr e, sumN_add]
    congr 1
    cases hp : p N with
    | true => simpa [hp] using sumN_one (h N (by omega))
    | false => simpa [hp] using sumN_zero n

def rootsN (F : Nat → Nat) (n : Nat) : Nat := (List.range n).countP fun l => F l == l
/-- Faces = crossings + 2 components, over all components. -/
theorem euler_all {F f : Nat → Nat} {n : Nat} (hs : sphB F f (4 * n) n = true) (hle : ∀ c, F c ≤ c) (hid : ∀ c, F (F c) = F c) : (List.range (4 * n)).countP (fst f (4 * n)) = n + 2 * rootsN F n := by
  have h1 := count_by (fst f (4 * n)) (fun x => F (x / 4)) n (4 * n) (fun x hx => by have := hle (x / 4); omega)
  have h2 := count_by (fun _ => true) F n n (fun x hx => by have := hle x; omega)
  have h3 : (List.range n).countP (fun _ => true) = n := by simp
  rw [h3] at h2
  have h4 : sumN (fun l => if F l == l then 1 else 0) n = rootsN F n := by
    have : ∀ k, sumN (fun l => if F l == l then 1 else 0) k = rootsN F k := by
      intro k
      induction k with
      | zero => rfl
      | succ k ih => show sumN _ k + _ = _; rw [ih]; unfold rootsN; rw [List.range_succ, List.countP_append]; simp [List.countP_cons]
    exact this n
  have h5 : ∀ l, l < n → ((List.range (4 * n)).countP fun x => fst f (4 * n) x && F (x / 4) == l) = (((List.range n).countP fun x => true && F x == l) + (if F l == l then 1 else 0)) + (if F l == l then 1 else 0) := fun l hl => by
    by_cases hr : F l = l
    · have := (sphB_iff _ _ _ _).1 hs l hl
      rw [hr] at this
      unfold cntF cntV at this
      simp only [Bool.true_and]
      rw [this]; simp [hr]
    · have e1 : ((List.range (4 * n)).countP fun x => fst f (4 * n) x && F (x / 4) == l) = 0 := by
        rw [List.countP_eq_zero]
        intro x _ q
        simp only [Bool.and_eq_true, beq_iff_eq] at q
        exact hr (by rw [← q.2, hid])
      have e2 : ((List.range n).countP fun x => true && F x == l) = 0 := by
        rw [List.countP_eq_zero]
        intro x _ q
        simp only [Bool.true_and, beq_iff_eq] at q
        exact hr (by rw [← q, hid])
      rw [e1, e2]; simp [hr]
  rw [sumN_congr h5, sumN_add, sumN_add, h2, h4] at h1
  omega

theorem cls_orb {f : Nat → Nat} {N : Nat} (p : Perm f N) : Cls (RO' f N) N ((List.range N).countP (fst f N)) :=
  (Cnt.countP (fst f N) N).congr fun x hx => by
    rw [p.fst_iff hx]
    exact ⟨fun q g hg o => q g hg o.2, fun q g hg o => q g hg ⟨by omega, o⟩⟩
theorem cls_lab {F : Nat → Nat} {n : Nat} (hle : ∀ c, F c ≤ c) (hid : ∀ c, F (F c) = F c) : Cls (fun x y => x < 4 * n ∧ y < 4 * n ∧ F (x / 4) = F (y / 4)) (4 * n) (rootsN F n) := by
  have h := (Cnt.countP (fun l => F l == l) n).firsts
  refine h.congr fun x hx => ⟨fun q g hg o => ?_, fun q => ?_⟩
  · obtain ⟨q1, q2⟩ := q
    have q3 : F (x / 4) = x / 4 := by simpa using q2
    have := hle (g / 4)
    rw [o.2.2, q3] at this
    omega
  · have hl := hle (x / 4)
    have h4 : x % 4 = 0 := by
      by_cases h0 : x % 4 = 0
      · exact h0
      · exact absurd ⟨by omega, hx, by rw [show (x - x % 4) / 4 = x / 4 by omega]⟩ (q (x - x % 4) (by omega))
    refine ⟨h4, ?_⟩
    have : F (x / 4) = x / 4 := by
      by_cases h0 : F (x / 4) = x / 4
      · exact h0
      · refine absurd ⟨by omega, hx, ?_⟩ (q (4 * F (x / 4)) (by omega))
        rw [show 4 * F (x / 4) / 4 = F (x / 4) by omega, hid]
    simpa using this

/-- In a diagram that is drawn on spheres the two sides of an edge are different faces. -/
theorem sides_sph {m : Nat → Nat} {n : Nat} (i : Invol m (4 * n)) (hfix : ∀ x, x < 4 * n → m x ≠ x) (hs : sphB (ufLab m (4 * n)) (fun x => trn (m x) 3) (4 * n) n = true) (h : Nat) (hh : h < 4 * n) : ¬ Orb (fun x => trn (m x) 3) h (m h) := by
  have hle : ∀ c, ufLab m (4 * n) c ≤ c := fun c => root_le _ _
  have hid : ∀ c, ufLab m (4 * n) (ufLab m (4 * n) c) = ufLab m (4 * n) c := fun c => root_root _ _
  have hlab := ufLab_isLab m (4 * n) n
  generalize ufLab m (4 * n) = F at *
  refine sides i hfix (D := fun x y => x < 4 * n ∧ y < 4 * n ∧ F (x / 4) = F (y / 4)) ⟨fun x y q => ⟨q.1, q.2.1⟩, fun x hx => ⟨hx, hx, rfl⟩, fun x y q => ⟨q.2.1, q.1, q.2.2.symm⟩, fun x y z q r => ⟨q.1, r.2.1, q.2.2.trans r.2.2⟩⟩
    (fun x y hx hy e => ⟨hx, hy, by rw [e]⟩) (fun x hx => ⟨hx, i.lt x hx, hlab.2 x hx⟩) ?_ (cls_orb (i.perm 3)) (cls_lab hle hid) (euler_all hs hle hid) h hh
  intro C hC h1 h2 x y hd
  have key : ∀ {a b : Nat}, Conn m (4 * n) a b → a < n → b < n ∧ C (4 * a) (4 * b) := by
    intro a b hc ha
    induction hc with
    | refl => exact ⟨ha, hC.refl _ (by omega)⟩
    | step z hz _ ih =>
      have hm := i.lt z hz
      exact ⟨by omega, hC.trans _ _ _ ih.2 (hC.trans _ _ _ (h1 _ z (by omega) hz (by omega)) (hC.trans _ _ _ (h2 z hz) (h1 _ _ hm (by omega) (by omega))))⟩
    | back z hz _ ih =>
      have hm := i.lt z hz
      exact ⟨by omega, hC.trans _ _ _ ih.2 (hC.trans _ _ _ (h1 _ (m z) (by omega) hm (by omega)) (hC.trans _ _ _ (hC.symm _ _ (h2 z hz)) (h1 _ _ hz (by omega) (by omega))))⟩
  obtain ⟨hx, hy, e⟩ := hd
  have c1 := (hlab.1 (x / 4) (by omega)).2
  have c2 := (hlab.1 (y / 4) (by omega)).2
  rw [e] at c1
  have := (key (c1.trans c2.symm) (by omega)).2
  exact hC.trans _ _ _ (h1 x _ hx (by omega) (by omega)) (hC.trans _ _ _ this (h1 _ y (by omega) hy (by omega)))

end Go.Proofs.YtdacjnmfmhkpiaaGreatDoor

/- Plain mathematics: each number bears the index of the row that it lies in. -/
namespace Go.Proofs.YtdacjnmfmhkpiaaGreatDoor

/-- The first j of a row get the colour i. -/
def hueRow (xs : List Int) (i : Nat) : Nat → (Nat → Nat) → Nat → Nat
  | 0, V => V
  | j + 1, V => fun x => if (x : Int) = xs.getD j 0 then i else hueRow xs i j V x
def hue (xss : List (List Int)) : Nat → Nat → Nat
  | 0 => fun _ => 0
  | i + 1 => hueRow (xss.getD i []) i (xss.getD i []).length (hue xss i)
theorem hueRow_in {xs : List Int} {i j q x : Nat} {V : Nat → Nat} (hq : q < j) (e : xs.getD q 0 = x) : hueRow xs i j V x = i := by
  induction j with
  | zero => omega
  | succ j ih =>
    show (if (x : Int) = xs.getD j 0 then i else hueRow xs i j V x) = i
    by_cases h : q = j
    · subst h; rw [e]; simp
    · split
      · rfl
      · exact ih (by omega)
theorem hueRow_out {xs : List Int} {i j x : Nat} {V : Nat → Nat} (hx : ∀ q, q < j → xs.getD q 0 ≠ x) : hueRow xs i j V x = V x := by
  induction j with
  | zero => rfl
  | succ j ih =>
    show (if (x : Int) = xs.getD j 0 then i else hueRow xs i j V x) = V x
    rw [if_neg (fun e => hx j (by omega) e.symm)]
    exact ih fun q hq => hx q (by omega)
theorem getD_mem_int {xs : List Int} {q : Nat} (hq : q < xs.length) : xs.getD q 0 ∈ xs := by
  have e : xs.getD q 0 = xs[q] := by simp [List.getD, hq]
  rw [e]; exact List.getElem_mem hq
theorem hue_done {xss : List (List Int)} {a x : Nat} (hx : (x : Int) ∈ xss.getD a []) (hu : ∀ b, b < xss.length → b ≠ a → (x : Int) ∉ xss.getD b []) {i : Nat} (ha : a < i) (hi : i ≤ xss.length) : hue xss i x = a := by
  induction i with
  | zero => omega
  | succ i ih =>
    show hueRow (xss.getD i []) i _ (hue xss i) x = a
    by_cases e : a = i
    · subst e
      obtain ⟨q, hq, k⟩ := List.getElem_of_mem hx
      exact hueRow_in (q := q) hq (by have e : (xss.getD a []).getD q 0 = (xss.getD a [])[q] := by generalize xss.getD a [] = ys at hq ⊢; simp [List.getD, hq]
                                      rw [e, k])
    · rw [hueRow_out fun q hq k => hu i (by omega) (Ne.symm e) (by rw [← k]; exact getD_mem_int hq)]
      exact ih (by omega) (by omega)

theorem mem_memb {F : Nat → Nat} {n l x : Nat} : (x : Int) ∈ memb F n l ↔ x < n ∧ F x = l := by
  unfold memb
  simp only [List.mem_map, List.mem_filter, List.mem_range, beq_iff_eq]
  constructor
  · rintro ⟨b, ⟨h1, h2⟩, e⟩
    have : b = x := by omega
    subst this; exact ⟨h1, h2⟩
  · rintro ⟨h1, h2⟩
    exact ⟨x, ⟨h1, h2⟩, rfl⟩
theorem mem_memb_nat {F : Nat → Nat} {n l : Nat} {y : Int} (h : y ∈ memb F n l) : ∃ x : Nat, y = x ∧ x < n ∧ F x = l := by
  unfold memb at h
  obtain ⟨b, hb, e⟩ := List.mem_map.1 h
  have hb' := List.mem_filter.1 hb
  exact ⟨b, e.symm, List.mem_range.1 hb'.1, by simpa using hb'.2⟩
theorem roots_nodup (F : Nat → Nat) (n : Nat) : (roots F n).Nodup := List.Pairwise.filter _ List.nodup_range
theorem graphL_get (F : Nat → Nat) (n : Nat) {a : Nat} (ha : a < (graphL F n).length) : ∃ h : a < (roots F n).length, (graphL F n).getD a [] = memb F n (roots F n)[a] := by
  have h : a < (roots F n).length := by rw [← graphL_length]; exact ha
  exact ⟨h, by unfold graphL; simp [List.getD, h]⟩
/-- All painted: numbers of one component bear one colour. -/
theorem hue_same {F : Nat → Nat} {n x y : Nat} (hle : ∀ b, F b ≤ b) (hid : ∀ b, F (F b) = F b) (hx : x < n) (hy : y < n) (e : F x = F y) : hue (graphL F n) (graphL F n).length x = hue (graphL F n) (graphL F n).length y := by
  have hm : F x ∈ roots F n := by
    unfold roots
    rw [List.mem_filter, List.mem_range]
    exact ⟨by have := hle x; omega, by simp [hid]⟩
  obtain ⟨a, ha, ea⟩ := List.getElem_of_mem hm
  have hal : a < (graphL F n).length := by rw [graphL_length]; exact ha
  obtain ⟨h1, h2⟩ := graphL_get F n hal
  have key : ∀ z, z < n → F z = F x → hue (graphL F n) (graphL F n).length z = a := fun z hz ez => by
    refine hue_done (by rw [h2]; exact mem_memb.2 ⟨hz, by rw [ez, ea]⟩) (fun b hb hne hin => ?_) hal (Nat.le_refl _)
    obtain ⟨g1, g2⟩ := graphL_get F n hb
    rw [g2] at hin
    obtain ⟨_, k⟩ := mem_memb.1 hin
    rw [ez, ← ea] at k
    exact hne ((List.getElem_inj (roots_nodup F n)).1 k).symm
  rw [key x hx rfl, key y hy e.symm]

/-- Two of each four are wanted. -/
theorem count_two (p : Nat → Bool) (n : Nat) (h : ∀ c, c < n → (List.range 4).countP (fun s => p (4 * c + s)) = 2) : (List.range (4 * n)).countP p = 2 * n := by
  induction n with
  | zero => rfl
  | succ n ih =>
    have h1 := ih fun c hc => h c (by omega)
    have h2 := h n (by omega)
    rw [show 4 * (n + 1) = 4 * n + 1 + 1 + 1 + 1 by omega, List.range_succ, List.range_succ, List.range_succ, List.range_succ]
    simp only [List.countP_append, List.countP_cons, List.countP_nil]
    simp only [List.range_succ, List.range_zero, List.nil_append, List.countP_append, List.countP_cons, List.countP_nil, Nat.add_zero] at h2
    rw [show 4 * n + 1 + 1 = 4 * n + 2 by omega, show 4 * n + 2 + 1 = 4 * n + 3 by omega]
    omega

end Go.Proofs.YtdacjnmfmhkpiaaGreatDoor

/- Plain mathematics: all cycles of the wanted numbers together are a rearrangement of the wanted numbers. -/
namespace Go.Proofs.YtdacjnmfmhkpiaaGreatDoor

/-- The first wanted numbers of the cycles. -/
def reprs (f : Nat → Nat) (N : Nat) (p : Nat → Bool) : List Nat := (List.range N).filter (sel f N p)
theorem reprs_mem {f : Nat → Nat} {N h : Nat} {p : Nat → Bool} : h ∈ reprs f N p ↔ h < N ∧ sel f N p h = true := by simp [reprs, List.mem_filter]
def flatN (f : Nat → Nat) (N : Nat) (p : Nat → Bool) : List Nat := ((reprs f N p).map (cyc f N)).flatten
def ClosedN (f : Nat → Nat) (N : Nat) (p : Nat → Bool) : Prop := ∀ h, h < N → p h = true → p (f h) = true
theorem ClosedN.it {f : Nat → Nat} {N : Nat} {p : Nat → Bool} (c : ClosedN f N p) (q : Perm f N) {h : Nat} (hh : h < N) (hp : p h = true) (i : Nat) : p (it f i h) = true := by
  induction i with
  | zero => exact hp
  | succ i ih => exact c _ (q.it_lt hh i) ih
theorem least_nat (P : Nat → Prop) : ∀ x, P x → ∃ y, P y ∧ ∀ z, z < y → ¬ P z := by
  intro x
  induction x using Nat.strongRecOn with
  | ind x ih =>
    intro hx
    by_cases e : ∃ z, z < x ∧ P z
    · obtain ⟨z, hz, hp⟩ := e; exact ih z hz hp
    · exact ⟨x, hx, fun z hz hp => e ⟨z, hz, hp⟩⟩
theorem reprs_ex {f : Nat → Nat} {N x : Nat} {p : Nat → Bool} (q : Perm f N) (hx : x < N) (hp : p x = true) : ∃ r, r ∈ reprs f N p ∧ Orb f r x := by
  obtain ⟨y, hy, hmin⟩ := least_nat (fun y => y < N ∧ p y = true ∧ Orb f y x) x ⟨hx, hp, Orb.refl f x⟩
  exact ⟨y, reprs_mem.2 ⟨hy.1, (q.sel_iff p hy.1).2 ⟨hy.2.1, fun h' hlt hp' o => hmin h' hlt ⟨by omega, hp', o.trans hy.2.2⟩⟩⟩, hy.2.2⟩
theorem reprs_uniq {f : Nat → Nat} {N a b x : Nat} {p : Nat → Bool} (q : Perm f N) (ha : a ∈ reprs f N p) (hb : b ∈ reprs f N p) (h1 : Orb f a x) (h2 : Orb f b x) : a = b := by
  obtain ⟨a1, a2⟩ := reprs_mem.1 ha
  obtain ⟨b1, b2⟩ := reprs_mem.1 hb
  have ha' := (q.sel_iff p a1).1 a2
  have hb' := (q.sel_iff p b1).1 b2
  have o1 := h1.trans (q.orb_symm b1 h2)
  have o2 := h2.trans (q.orb_symm a1 h1)
  rcases Nat.lt_trichotomy a b with k | k | k
  · exact absurd o1 (hb'.2 _ k ha'.1)
  · exact k
  · exact absurd o2 (ha'.2 _ k hb'.1)
theorem cyc_nodup {f : Nat → Nat} {N h : Nat} (q : Perm f N) (hh : h < N) : (cyc f N h).Nodup := by
  unfold cyc
  refine List.pairwise_map.2 (List.Pairwise.imp_of_mem (R := (· < ·)) (fun {a b} ha hb hab => ?_) List.pairwise_lt_range)
  exact q.it_ne hh hab (by simpa using hb)
theorem mem_flatN {f : Nat → Nat} {N x : Nat} {p : Nat → Bool} (q : Perm f N) (c : ClosedN f N p) : x ∈ flatN f N p ↔ x < N ∧ p x = true := by
  unfold flatN
  simp only [List.mem_flatten, List.mem_map]
  constructor
  · rintro ⟨l, ⟨r, hr, rfl⟩, hx⟩
    obtain ⟨r1, r2⟩ := reprs_mem.1 hr
    obtain ⟨i, _, rfl⟩ := q.orb_lt r1 ((q.mem_cyc r1 x).1 hx)
    exact ⟨q.it_lt r1 i, c.it q r1 ((q.sel_iff p r1).1 r2).1 i⟩
  · rintro ⟨hx, hp⟩
    obtain ⟨r, hr, o⟩ := reprs_ex q hx hp
    exact ⟨_, ⟨r, hr, rfl⟩, (q.mem_cyc (reprs_mem.1 hr).1 x).2 o⟩
theorem flatN_nodup {f : Nat → Nat} {N : Nat} {p : Nat → Bool} (q : Perm f N) : (flatN f N p).Nodup := by
  unfold flatN
  refine List.pairwise_flatten.2 ⟨fun l hl => ?_, ?_⟩
  · obtain ⟨r, hr, rfl⟩ := List.mem_map.1 hl
    exact cyc_nodup q (reprs_mem.1 hr).1
  · refine List.pairwise_map.2 (List.Pairwise.imp_of_mem (R := (· < ·)) (fun {a b} ha hb hab x hx y hy e => ?_) (List.Pairwise.filter _ List.pairwise_lt_range))
    have h1 := (q.mem_cyc (reprs_mem.1 ha).1 x).1 hx
    have h2 := (q.mem_cyc (reprs_mem.1 hb).1 y).1 hy
    rw [← e] at h2
    have := reprs_uniq q ha hb h1 h2
    omega
theorem flatN_perm {f : Nat → Nat} {N : Nat} {p : Nat → Bool} (q : Perm f N) (c : ClosedN f N p) : (flatN f N p).Perm ((List.range N).filter p) :=
  (List.perm_ext_iff_of_nodup (flatN_nodup q) (List.Pairwise.filter _ List.nodup_range)).2 fun x => by
    rw [mem_flatN q c, List.mem_filter, List.mem_range]
def lenSum (l : List Nat) (g : Nat → Nat) : Nat := (l.map g).sum
theorem flatN_length (f : Nat → Nat) (N : Nat) (p : Nat → Bool) : (flatN f N p).length = lenSum (reprs f N p) (per f N) := by
  unfold flatN lenSum
  rw [List.length_flatten, List.map_map]
  congr 1
  refine List.map_congr_left fun r _ => ?_
  simp [cyc]
/-- The lengths of the cycles of the wanted add up to the number of the wanted. -/
theorem sum_per {f : Nat → Nat} {N : Nat} {p : Nat → Bool} (q : Perm f N) (c : ClosedN f N p) : lenSum (reprs f N p) (per f N) = (List.range N).countP p := by
  rw [← flatN_length, (flatN_perm q c).length_eq, List.countP_eq_length_filter]
theorem cycL_reprs (f : Nat → Nat) (N : Nat) (p : Nat → Bool) : cycL f N p N = (reprs f N p).map (fun h => itl f h (per f N h)) := rfl
theorem cycL_get (f : Nat → Nat) (N : Nat) (p : Nat → Bool) {i : Nat} (hi : i < (cycL f N p N).length) : (reprs f N p).getD i 0 ∈ reprs f N p ∧ (cycL f N p N).getD i [] = itl f ((reprs f N p).getD i 0) (per f N ((reprs f N p).getD i 0)) := by
  rw [cycL_reprs] at hi ⊢
  rw [List.length_map] at hi
  have e : (reprs f N p).getD i 0 = (reprs f N p)[i] := by simp [List.getD, hi]
  rw [e]
  exact ⟨List.getElem_mem hi, by simp [List.getD, hi]⟩
theorem cycL_len (f : Nat → Nat) (N : Nat) (p : Nat → Bool) : (cycL f N p N).length = (reprs f N p).length := by rw [cycL_reprs, List.length_map]

/-- The lengths of the first i rows. -/
def totR (xss : List (List Int)) (i : Nat) : Nat := ((xss.take i).map List.length).sum
theorem totR_succ {xss : List (List Int)} {i : Nat} (h : i < xss.length) : totR xss (i + 1) = totR xss i + (xss.getD i []).length := by
  unfold totR
  rw [List.take_succ_eq_append_getElem h, List.map_append, List.sum_append]
  have e : xss.getD i [] = xss[i] := by simp [List.getD, h]
  rw [e]; simp
theorem totR_zero (xss : List (List Int)) : totR xss 0 = 0 := by simp [totR]
theorem totR_all {f : Nat → Nat} {N : Nat} {p : Nat → Bool} (q : Perm f N) (c : ClosedN f N p) : totR (cycL f N p N) (cycL f N p N).length = (List.range N).countP p := by
  unfold totR
  rw [List.take_length, cycL_reprs, List.map_map, ← sum_per q c]
  unfold lenSum
  congr 1
  exact List.map_congr_left fun r _ => by simp [itl]

end Go.Proofs.YtdacjnmfmhkpiaaGreatDoor

/- The code of a valid diagram: it is valid, its mates are the diagram's, its genus is 0; plain. -/
namespace Go.Proofs.YtdacjnmfmhkpiaaGreatDoor
open Go.RowKit

theorem bk_data {signs mate : List Int} {lp : Int} (hv : validB signs mate lp = true) : ∃ n, signs.length = n ∧ mate.length = 4 * n ∧ Invol (matesOf mate) (4 * n) ∧ (∀ x, x < 4 * n → matesOf mate x ≠ x) ∧
    sphB (ufLab (matesOf mate) (4 * n)) (fun x => trn (matesOf mate x) 3) (4 * n) n = true := by
  obtain ⟨v1, v2, v3, v4⟩ := validB_out hv
  obtain ⟨l1, l2, l3, l4⟩ := limB_out v1
  have hi := matesOf_invol v3 l2
  refine ⟨signs.length, rfl, l2, hi, fun x hx e => ?_, ?_⟩
  · obtain ⟨m, h1, h2, h3, h4⟩ := pOK_out ((pairB_iff _ _).1 v3 x (by omega)) l2
    have e2 : matesOf mate x = m := by unfold matesOf; rw [h1]; simp
    rw [e2] at e
    rw [e] at h4
    exact h4 rfl
  · unfold sphM at v4
    rw [l2] at v4
    exact v4
theorem bk_count {s : List Int} {n : Nat} (h : sgnsB s = true) (hl : s.length = n) : (List.range (4 * n)).countP (outB s) = 2 * n := by
  refine count_two _ n fun c hc => ?_
  have hg := (sgnsB_iff _).1 h c (by omega)
  have e0 : outB s (4 * c) = false := by unfold outB; rw [show 4 * c % 4 = 0 by omega]; simp
  have e1 : outB s (4 * c + 1) = (s.getD c 0 == 1) := by unfold outB; rw [show (4 * c + 1) % 4 = 1 by omega, show (4 * c + 1) / 4 = c by omega]; simp
  have e2 : outB s (4 * c + 2) = true := by unfold outB; rw [show (4 * c + 2) % 4 = 2 by omega]; simp
  have e3 : outB s (4 * c + 3) = (s.getD c 0 == -1) := by unfold outB; rw [show (4 * c + 3) % 4 = 3 by omega, show (4 * c + 3) / 4 = c by omega]; simp
  have hr : List.range 4 = [0, 1, 2, 3] := rfl
  rw [hr]
  simp only [List.countP_cons, List.countP_nil, Nat.add_zero, e0, e1, e2, e3]
  unfold sgB at hg
  simp only [Bool.or_eq_true, beq_iff_eq] at hg
  rcases hg with e | e <;> rw [e] <;> rfl

theorem ufAt_congr {m m' : Nat → Nat} {N : Nat} (h : ∀ x, x < N → m x = m' x) (k : Nat) (hk : k ≤ N) : ufAt m k = ufAt m' k := by
  induction k with
  | zero => rfl
  | succ k ih =>
    show ufStep m (ufAt m k) k = ufStep m' (ufAt m' k) k
    rw [ih (by omega)]
    unfold ufStep
    rw [h k (by omega)]
theorem ufAt_below (m : Nat → Nat) (k c : Nat) : ufAt m k c ≤ c := by
  induction k with
  | zero => exact Nat.le_refl _
  | succ k ih =>
    show ufStep m (ufAt m k) k c ≤ c
    unfold ufStep upd
    split
    · rename_i e; subst e; omega
    · exact ih
theorem per_congr {f g : Nat → Nat} {N x : Nat} (p : Perm f N) (e : ∀ y, y < N → f y = g y) (hx : x < N) : per f N x = per g N x := by
  unfold per
  have : (fun q => it f (q + 1) x == x) = fun q => it g (q + 1) x == x := by funext q; rw [it_congr p e hx]
  rw [this]
theorem fst_congr {f g : Nat → Nat} {N x : Nat} (p : Perm f N) (e : ∀ y, y < N → f y = g y) (hx : x < N) : fst f N x = fst g N x := by
  unfold fst cyc
  have : (fun i => it f i x) = fun i => it g i x := by funext i; rw [it_congr p e hx]
  rw [per_congr p e hx, this]
theorem cFst_congr {f g : Nat → Nat} {N : Nat} (p : Perm f N) (e : ∀ y, y < N → f y = g y) (k : Nat) (hk : k ≤ N) : cFst f N k = cFst g N k := by
  unfold cFst
  congr 1
  refine List.filter_congr fun x hx => ?_
  have : x < k := by simpa using hx
  rw [fst_congr p e (by omega)]
theorem genM_congr {m m' : Nat → Nat} {n : Nat} (i : Invol m (4 * n)) (h : ∀ x, x < 4 * n → m x = m' x) : genM m n = genM m' n := by
  unfold genM
  rw [ufAt_congr h _ (Nat.le_refl _), cFst_congr (f := ff m) (g := ff m') (i.perm 3) (fun y hy => by unfold ff; rw [h y hy]) _ (Nat.le_refl _)]
theorem nRoots_rootsN (L : Nat → Nat) (hL : ∀ c, L c ≤ c) (n : Nat) : nRoots L n = rootsN (root L) n := by
  unfold nRoots rootsN
  rw [List.countP_eq_length_filter]
  congr 1
  refine List.filter_congr fun c _ => ?_
  by_cases h : L c < c
  · have h1 : ¬ L c = c := by omega
    have h2 : ¬ root L c = c := by
      rw [root_step L c h]
      have := root_le L (L c)
      omega
    simp [h1, h2]
  · have h1 : L c = c := by have := hL c; omega
    have h2 : root L c = c := root_fix L c h
    simp [h1, h2]
/-- The genus of a valid diagram's mates is 0. -/
theorem genM_valid {s m : List Int} {lp : Int} (hv : validB s m lp = true) : genM (matesOf m) s.length = 0 := by
  obtain ⟨n, h1, h2, hi, hf, hs⟩ := bk_data hv
  subst h1
  have h3 := euler_all hs (fun c => root_le _ _) (fun c => root_root _ _)
  have h4 : cFst (ff (matesOf m)) (4 * s.length) (4 * s.length) = s.length + 2 * rootsN (ufLab (matesOf m) (4 * s.length)) s.length := by
    rw [← h3]; unfold cFst; rw [List.countP_eq_length_filter]; rfl
  have h5 := nRoots_rootsN (ufAt (matesOf m) (4 * s.length)) (ufAt_below _ _) s.length
  unfold genM
  rw [h4, h5]
  have e : (fun c => root (ufAt (matesOf m) (4 * s.length)) c) = ufLab (matesOf m) (4 * s.length) := rfl
  have e2 : root (ufAt (matesOf m) (4 * s.length)) = ufLab (matesOf m) (4 * s.length) := e
  rw [e2]
  generalize rootsN (ufLab (matesOf m) (4 * s.length)) s.length = r
  rw [show 2 * (r : Int) + (s.length : Nat) - ((s.length + 2 * r : Nat) : Int) = 0 by push_cast; omega]
  rfl

theorem trn_two (h : Nat) : trn (trn h 2) 2 = h := by unfold trn; omega
/-- The visit of an outgoing half-edge leaves by it. -/
theorem outV_visX {s : List Int} (hs : sgnsB s = true) {x : Nat} (hx : x < 4 * s.length) (ho : outB s x = true) : outV s (visX x) = x ∧ inV s (visX x) = trn x 2 := by
  have hg := (sgnsB_iff _).1 hs (x / 4) (by omega)
  have e1 : (visX (x : Int)).1.toNat = x / 4 := by unfold visX; simp only; omega
  have e2 : (visX (x : Int)).2 = ((x : Int) % 2 == 1) := rfl
  unfold outV inV
  rw [e1, e2]
  unfold outB at ho
  unfold outN inN
  generalize s.getD (x / 4) 0 = g at ho hg ⊢
  unfold sgB at hg
  have hr : x % 4 = 0 ∨ x % 4 = 1 ∨ x % 4 = 2 ∨ x % 4 = 3 := by omega
  rcases hr with e | e | e | e
  · rw [e] at ho; simp at ho
  · rw [e] at ho
    have h2 : ((x : Int) % 2 == 1) = true := by simp; omega
    have h3 : g = 1 := by simpa using ho
    rw [h2, h3]
    simp only [Bool.true_eq_false, if_false, if_true]
    refine ⟨by omega, ?_⟩
    unfold trn; omega
  · have h2 : ((x : Int) % 2 == 1) = false := by simp; omega
    rw [h2]
    simp only [if_true]
    refine ⟨by omega, ?_⟩
    unfold trn; omega
  · rw [e] at ho
    have h2 : ((x : Int) % 2 == 1) = true := by simp; omega
    have h3 : g = -1 := by simpa using ho
    rw [h2, h3]
    simp only [Bool.true_eq_false, if_false]
    refine ⟨by rw [if_neg (by decide)]; omega, ?_⟩
    rw [if_neg (by decide)]
    unfold trn; omega
theorem visX_inj {s : List Int} (hs : sgnsB s = true) {x y : Nat} (hx : x < 4 * s.length) (hy : y < 4 * s.length) (ox : outB s x = true) (oy : outB s y = true) (e : visX (x : Int) = visX (y : Int)) : x = y := by
  rw [← (outV_visX hs hx ox).1, ← (outV_visX hs hy oy).1, e]
theorem strandsM_reprs {s m : List Int} {lp : Int} (hv : validB s m lp = true) : strandsM s m lp = (reprs (fs (matesOf m)) m.length (outB s)).map (fun h => itl (fs (matesOf m)) h (per (fs (matesOf m)) m.length h)) := by
  unfold strandsM; rw [if_pos hv, cycL_reprs]
theorem visOf_itl (f : Nat → Nat) (N h : Nat) : visOf (itl f h (per f N h)) = (cyc f N h).map fun (x : Nat) => visX (x : Int) := by
  unfold visOf itl cyc
  rw [List.map_map, List.map_map]; rfl
theorem codeC_flat {s m : List Int} {lp : Int} (hv : validB s m lp = true) : (codeC s m lp).flatten = (flatN (fs (matesOf m)) m.length (outB s)).map fun (x : Nat) => visX (x : Int) := by
  unfold codeC flatN
  rw [strandsM_reprs hv, List.map_flatten, List.map_map, List.map_map]
  congr 1
  refine List.map_congr_left fun h _ => ?_
  exact visOf_itl _ _ _
structure BkF (s m : List Int) (lp : Int) : Prop where
  lm : m.length = 4 * s.length
  le : s.length ≤ 64
  p : Perm (fs (matesOf m)) m.length
  c : ClosedN (fs (matesOf m)) m.length (outB s)
  i : Invol (matesOf m) m.length
  sg : sgnsB s = true
  pr : pairB s m = true
  lim : limB s.length m.length lp = true
theorem bk_facts {s m : List Int} {lp : Int} (hv : validB s m lp = true) : BkF s m lp := by
  obtain ⟨v1, v2, v3, v4⟩ := validB_out hv
  obtain ⟨l1, l2, l3, l4⟩ := limB_out v1
  have hi : Invol (matesOf m) m.length := matesOf_invol v3 rfl
  refine ⟨l2, l1, ?_, fun h hh ho => out_closed v2 v3 rfl rfl l2 h hh ho, hi, v2, v3, v1⟩
  have := hi
  rw [l2] at this ⊢
  exact this.perm 2
/-- The code of a valid diagram is valid. -/
theorem codeC_visB {s m : List Int} {lp : Int} (hv : validB s m lp = true) : visB (codeC s m lp) s.length = true := by
  have B := bk_facts hv
  refine (visB_iff _ _).2 ⟨fun l hl => ?_, ⟨?_, ?_⟩, ?_⟩
  · unfold codeC at hl
    obtain ⟨xs, hxs, rfl⟩ := List.mem_map.1 hl
    rw [strandsM_reprs hv] at hxs
    obtain ⟨r, _, rfl⟩ := List.mem_map.1 hxs
    intro e
    have := congrArg List.length e
    rw [visOf_length, itl_length] at this
    have := per_pos (fs (matesOf m)) m.length r
    simp at *
    omega
  · rw [codeC_flat hv]
    refine List.pairwise_map.2 (List.Pairwise.imp_of_mem (fun {a b} ha hb hab e => hab ?_) (flatN_nodup B.p))
    obtain ⟨a1, a2⟩ := (mem_flatN B.p B.c).1 ha
    obtain ⟨b1, b2⟩ := (mem_flatN B.p B.c).1 hb
    rw [B.lm] at a1 b1
    exact visX_inj B.sg a1 b1 a2 b2 e
  · intro v hv2
    rw [codeC_flat hv] at hv2
    obtain ⟨x, hx, rfl⟩ := List.mem_map.1 hv2
    obtain ⟨a1, a2⟩ := (mem_flatN B.p B.c).1 hx
    rw [B.lm] at a1
    unfold visX
    simp only
    omega
  · rw [codeC_flat hv, List.length_map, flatN_length, sum_per B.p B.c, B.lm]
    exact bk_count B.sg rfl
theorem codeC_gval {s m : List Int} {lp : Int} (hv : validB s m lp = true) : gvalB (codeC s m lp) s lp = true := by
  have B := bk_facts hv
  obtain ⟨l1, l2, l3, l4⟩ := limB_out B.lim
  unfold gvalB glimB
  rw [codeC_visB hv, B.sg]
  simp only [Bool.and_true, Bool.and_eq_true, decide_eq_true_eq]
  exact ⟨⟨l1, l3⟩, l4⟩
/-- Along the code the mates are the diagram's. -/
theorem codeC_out {s m : List Int} {lp : Int} (hv : validB s m lp = true) {h : Nat} (hh : h < m.length) (ho : outB s h = true) :
    mAll s (codeC s m lp) (codeC s m lp).length h = matesOf m h ∧ mAll s (codeC s m lp) (codeC s m lp).length (matesOf m h) = h := by
  have B := bk_facts hv
  have hmem := (mem_flatN B.p B.c).2 ⟨hh, ho⟩
  unfold flatN at hmem
  obtain ⟨_, hl, hx⟩ := List.mem_flatten.1 hmem
  obtain ⟨r, hr, rfl⟩ := List.mem_map.1 hl
  unfold cyc at hx
  obtain ⟨i, hi, rfl⟩ := List.mem_map.1 hx
  have hi' : i < per (fs (matesOf m)) m.length r := by simpa using hi
  obtain ⟨r1, r2⟩ := reprs_mem.1 hr
  have r3 := ((B.p.sel_iff _ r1).1 r2).1
  have hps := B.p.per_spec r1
  obtain ⟨P, hP⟩ : ∃ P, per (fs (matesOf m)) m.length r = P := ⟨_, rfl⟩
  rw [hP] at hi' hps
  have hnext : it (fs (matesOf m)) ((i + 1) % P) r = it (fs (matesOf m)) (i + 1) r := by
    rcases Nat.lt_or_ge (i + 1) P with e | e
    · rw [Nat.mod_eq_of_lt e]
    · obtain rfl : P = i + 1 := by omega
      rw [Nat.mod_self, hps.1]; rfl
  have hrow : visOf (itl (fs (matesOf m)) r P) ∈ codeC s m lp := by
    unfold codeC
    rw [strandsM_reprs hv]
    refine List.mem_map.2 ⟨itl (fs (matesOf m)) r P, List.mem_map.2 ⟨r, hr, by rw [hP]⟩, rfl⟩
  have hlen : (visOf (itl (fs (matesOf m)) r P)).length = P := by rw [visOf_length, itl_length]
  have hget : ∀ j, j < P → (visOf (itl (fs (matesOf m)) r P)).getD j v0 = visX ((it (fs (matesOf m)) j r : Nat) : Int) := fun j hj => by
    rw [← itl_getD (fs (matesOf m)) r P j hj]
    have hj2 : j < (itl (fs (matesOf m)) r P).length := by rw [itl_length]; exact hj
    simp [visOf, List.getD, hj2]
  have hpair : (it (fs (matesOf m)) i r, matesOf m (it (fs (matesOf m)) i r)) ∈ (codeC s m lp).flatMap (pairsRow s) := by
    refine List.mem_flatMap.2 ⟨_, hrow, ?_⟩
    unfold pairsRow pairsTo
    rw [hlen]
    refine List.mem_map.2 ⟨i, List.mem_range.2 hi', ?_⟩
    rw [hget i hi', hget ((i + 1) % P) (Nat.mod_lt _ (by omega)), hnext]
    have e1 := (outV_visX B.sg (by rw [← B.lm]; exact B.p.it_lt r1 i) ho).1
    have e2 := (outV_visX B.sg (x := it (fs (matesOf m)) (i + 1) r) (by rw [← B.lm]; exact B.p.it_lt r1 (i + 1)) (B.c.it B.p r1 r3 (i + 1))).2
    rw [e1, e2]
    congr 1
    exact trn_two _
  exact mAll_pair s (codeC_visB hv) hpair
theorem codeC_mates {s m : List Int} {lp : Int} (hv : validB s m lp = true) {h : Nat} (hh : h < m.length) : mAll s (codeC s m lp) (codeC s m lp).length h = matesOf m h := by
  have B := bk_facts hv
  cases ho : outB s h with
  | true => exact (codeC_out hv hh ho).1
  | false =>
    obtain ⟨k, h1, h2, h3, h4⟩ := pOK_out ((pairB_iff _ _).1 B.pr h hh) rfl
    have e : matesOf m h = k := by unfold matesOf; rw [h1]; simp
    have hk : outB s k = true := by
      cases q : outB s k with
      | true => rfl
      | false => rw [ho, q] at h4; exact absurd rfl h4
    have := (codeC_out hv h2 hk).2
    have e2 : matesOf m k = h := by unfold matesOf; rw [h3]; simp
    rw [e2] at this
    rw [this, e]
theorem codeC_mateL {s m : List Int} {lp : Int} (hv : validB s m lp = true) : mateL s (codeC s m lp) = m := by
  have B := bk_facts hv
  apply List.ext_getElem
  · unfold mateL; rw [List.length_map, List.length_range, B.lm]
  · intro h h1 h2
    have hm := (matesOf_mates B.pr rfl h h2).1
    have e : (mateL s (codeC s m lp))[h] = (mAll s (codeC s m lp) (codeC s m lp).length h : Int) := by simp [mateL]
    rw [e, codeC_mates hv h2, ← hm]
    simp [List.getD, h2]
theorem codeC_genus {s m : List Int} {lp : Int} (hv : validB s m lp = true) : genC (codeC s m lp) s = 0 := by
  have B := bk_facts hv
  unfold genC
  rw [genM_congr (m' := matesOf m) (mAll_invol s (codeC_visB hv)) (fun x hx => codeC_mates hv (by rw [B.lm]; exact hx)), genM_valid hv]

end Go.Proofs.YtdacjnmfmhkpiaaGreatDoor
