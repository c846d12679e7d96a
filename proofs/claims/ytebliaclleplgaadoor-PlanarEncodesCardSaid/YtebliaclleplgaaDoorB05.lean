import Derived.Test.YtebliaclleplgaaDoorB03
/- Plain mathematics: all cycles of the wanted numbers together are a rearrangement of the wanted numbers. -/
namespace Go.Proofs.YtebliaclleplgaaDoor

/-- The first wanted numbers of the cycles. -/
def reprs (f : Nat → Nat) (N : Nat) (p : Nat → Bool) : List Nat := (List.range N).filter (sel f N p)
theorem reprs_mem {f : Nat → Nat} {N h : Nat} {p : Nat → Bool} : h ∈ reprs f N p ↔ h < N ∧ sel f N p h = true := by simp [reprs, List.mem_filter]
def flatN (f : Nat → Nat) (N : Nat) (p : Nat → Bool) : List Nat := ((reprs f N p).map (cyc f N)).flatten
def ClosedN (f : Nat → Nat) (N : Nat) (p : Nat → Bool) : Prop := ∀ h, h < N → p h = true → p (f h) = true
theorem ClosedN.it {f : Nat → Nat} {N : Nat} {p : Nat → Bool} (c : ClosedN f N p) (q : Perm f N) {h : Nat} (hh : h < N) (hp : p h = true) (i : Nat) : p (it f i h) = true := by
  induction i with
  | zero => exact hp
  | succ i ih => exact c _ (q.it_lt hh i) ih
theorem least_nat (P : Nat → Prop) : ∀ x, P x → ∃ y, P y ∧ ∀ z, z < y → ¬ P z := by
  intro x
  induction x using Nat.strongRecOn with
  | ind x ih =>
    intro hx
    by_cases e : ∃ z, z < x ∧ P z
    · obtain ⟨z, hz, hp⟩ := e; exact ih z hz hp
    · exact ⟨x, hx, fun z hz hp => e ⟨z, hz, hp⟩⟩
theorem reprs_ex {f : Nat → Nat} {N x : Nat} {p : Nat → Bool} (q : Perm f N) (hx : x < N) (hp : p x = true) : ∃ r, r ∈ reprs f N p ∧ Orb f r x := by
  obtain ⟨y, hy, hmin⟩ := least_nat (fun y => y < N ∧ p y = true ∧ Orb f y x) x ⟨hx, hp, Orb.refl f x⟩
  exact ⟨y, reprs_mem.2 ⟨hy.1, (q.sel_iff p hy.1).2 ⟨hy.2.1, fun h' hlt hp' o => hmin h' hlt ⟨by omega, hp', o.trans hy.2.2⟩⟩⟩, hy.2.2⟩
theorem reprs_uniq {f : Nat → Nat} {N a b x : Nat} {p : Nat → Bool} (q : Perm f N) (ha : a ∈ reprs f N p) (hb : b ∈ reprs f N p) (h1 : Orb f a x) (h2 : Orb f b x) : a = b := by
  obtain ⟨a1, a2⟩ := reprs_mem.1 ha
  obtain ⟨b1, b2⟩ := reprs_mem.1 hb
  have ha' := (q.sel_iff p a1).1 a2
  have hb' := (q.sel_iff p b1).1 b2
  have o1 := h1.trans (q.orb_symm b1 h2)
  have o2 := h2.trans (q.orb_symm a1 h1)
  rcases Nat.lt_trichotomy a b with k | k | k
  · exact absurd o1 (hb'.2 _ k ha'.1)
  · exact k
  · exact absurd o2 (ha'.2 _ k hb'.1)
theorem cyc_nodup {f : Nat → Nat} {N h : Nat} (q : Perm f N) (hh : h < N) : (cyc f N h).Nodup := by
  unfold cyc
  refine List.pairwise_map.2 (List.Pairwise.imp_of_mem (R := (· < ·)) (fun {a b} ha hb hab => ?_) List.pairwise_lt_range)
  exact q.it_ne hh hab (by simpa using hb)
theorem mem_flatN {f : Nat → Nat} {N x : Nat} {p : Nat → Bool} (q : Perm f N) (c : ClosedN f N p) : x ∈ flatN f N p ↔ x < N ∧ p x = true := by
  unfold flatN
  simp only [List.mem_flatten, List.mem_map]
  constructor
  · rintro ⟨l, ⟨r, hr, rfl⟩, hx⟩
    obtain ⟨r1, r2⟩ := reprs_mem.1 hr
    obtain ⟨i, _, rfl⟩ := q.orb_lt r1 ((q.mem_cyc r1 x).1 hx)
    exact ⟨q.it_lt r1 i, c.it q r1 ((q.sel_iff p r1).1 r2).1 i⟩
  · rintro ⟨hx, hp⟩
    obtain ⟨r, hr, o⟩ := reprs_ex q hx hp
    exact ⟨_, ⟨r, hr, rfl⟩, (q.mem_cyc (reprs_mem.1 hr).1 x).2 o⟩
theorem flatN_nodup {f : Nat → Nat} {N : Nat} {p : Nat → Bool} (q : Perm f N) : (flatN f N p).Nodup := by
  unfold flatN
  refine List.pairwise_flatten.2 ⟨fun l hl => ?_, ?_⟩
  · obtain ⟨r, hr, rfl⟩ := List.mem_map.1 hl
    exact cyc_nodup q (reprs_mem.1 hr).1
  · refine List.pairwise_map.2 (List.Pairwise.imp_of_mem (R := (· < ·)) (fun {a b} ha hb hab x hx y hy e => ?_) (List.Pairwise.filter _ List.pairwise_lt_range))
    have h1 := (q.mem_cyc (reprs_mem.1 ha).1 x).1 hx
    have h2 := (q.mem_cyc (reprs_mem.1 hb).1 y).1 hy
    rw [← e] at h2
    have := reprs_uniq q ha hb h1 h2
    omega
theorem flatN_perm {f : Nat → Nat} {N : Nat} {p : Nat → Bool} (q : Perm f N) (c : ClosedN f N p) : (flatN f N p).Perm ((List.range N).filter p) :=
  (List.perm_ext_iff_of_nodup (flatN_nodup q) (List.Pairwise.filter _ List.nodup_range)).2 fun x => by
    rw [mem_flatN q c, List.mem_filter, List.mem_range]
def lenSum (l : List Nat) (g : Nat → Nat) : Nat := (l.map g).sum
theorem flatN_length (f : Nat → Nat) (N : Nat) (p : Nat → Bool) : (flatN f N p).length = lenSum (reprs f N p) (per f N) := by
  unfold flatN lenSum
  rw [List.length_flatten, List.map_map]
  congr 1
  refine List.map_congr_left fun r _ => ?_
  simp [cyc]
/-- The lengths of the cycles of the wanted add up to the number of the wanted. -/
theorem sum_per {f : Nat → Nat} {N : Nat} {p : Nat → Bool} (q : Perm f N) (c : ClosedN f N p) : lenSum (reprs f N p) (per f N) = (List.range N).countP p := by
  rw [← flatN_length, (flatN_perm q c).length_eq, List.countP_eq_length_filter]
theorem cycL_reprs (f : Nat → Nat) (N : Nat) (p : Nat → Bool) : cycL f N p N = (reprs f N p).map (fun h => itl f h (per f N h)) := rfl
theorem cycL_get (f : Nat → Nat) (N : Nat) (p : Nat → Bool) {i : Nat} (hi : i < (cycL f N p N).length) : (reprs f N p).getD i 0 ∈ reprs f N p ∧ (cycL f N p N).getD i [] = itl f ((reprs f N p).getD i 0) (per f N ((reprs f N p).getD i 0)) := by
  rw [cycL_reprs] at hi ⊢
  rw [List.length_map] at hi
  have e : (reprs f N p).getD i 0 = (reprs f N p)[i] := by simp [List.getD, hi]
  rw [e]
  exact ⟨List.getElem_mem hi, by simp [List.getD, hi]⟩
theorem cycL_len (f : Nat → Nat) (N : Nat) (p : Nat → Bool) : (cycL f N p N).length = (reprs f N p).length := by rw [cycL_reprs, List.length_map]

/-- The lengths of the first i rows. -/
def totR (xss : List (List Int)) (i : Nat) : Nat := ((xss.take i).map List.length).sum
theorem totR_succ {xss : List (List Int)} {i : Nat} (h : i < xss.length) : totR xss (i + 1) = totR xss i + (xss.getD i []).length := by
  unfold totR
  rw [List.take_succ_eq_append_getElem h, List.map_append, List.sum_append]
  have e : xss.getD i [] = xss[i] := by simp [List.getD, h]
  rw [e]; simp
theorem totR_zero (xss : List (List Int)) : totR xss 0 = 0 := by simp [totR]
theorem totR_all {f : Nat → Nat} {N : Nat} {p : Nat → Bool} (q : Perm f N) (c : ClosedN f N p) : totR (cycL f N p N) (cycL f N p N).length = (List.range N).countP p := by
  unfold totR
  rw [List.take_length, cycL_reprs, List.map_map, ← sum_per q c]
  unfold lenSum
  congr 1
  exact List.map_congr_left fun r _ => by simp [itl]

end Go.Proofs.YtebliaclleplgaaDoor

/- The examples of the chapter, computed. -/
namespace Go.Proofs.YtebliaclleplgaaDoor
open Go.RowKit

def trS : List Int := [1, 1, 1]
def trM : List Int := [9, 4, 7, 10, 1, 8, 11, 2, 5, 0, 3, 6]
def kkS : List Int := [1]
def kkM : List Int := [1, 0, 3, 2]

theorem tr_lab : IsLab (matesOf trM) 12 3 (fun _ => 0) := by
  refine ⟨fun c hc => ⟨Nat.zero_le _, ?_⟩, fun _ _ => rfl⟩
  have h0 : Conn (matesOf trM) 12 0 2 := Conn.step 0 (by omega) (Conn.refl 0)
  have h1 : Conn (matesOf trM) 12 0 1 := Conn.step 1 (by omega) (Conn.refl 0)
  match c, hc with
  | 0, _ => exact .refl _
  | 1, _ => exact h1.symm
  | 2, _ => exact h0.symm
theorem kk_lab : IsLab (matesOf kkM) 4 1 (fun _ => 0) := by
  refine ⟨fun c hc => ⟨Nat.zero_le _, ?_⟩, fun _ _ => rfl⟩
  match c, hc with
  | 0, _ => exact .refl _
theorem tr_sph : sphM trM 3 = true := by
  show sphB (ufLab (matesOf trM) 12) (ff (matesOf trM)) (4 * 3) 3 = true
  rw [sphB_congr (G := fun _ => 0) fun c hc => (ufLab_isLab (matesOf trM) 12 3).unique tr_lab c hc]
  decide +kernel
theorem kk_sph : sphM kkM 1 = true := by
  show sphB (ufLab (matesOf kkM) 4) (ff (matesOf kkM)) (4 * 1) 1 = true
  rw [sphB_congr (G := fun _ => 0) fun c hc => (ufLab_isLab (matesOf kkM) 4 1).unique kk_lab c hc]
  decide +kernel
theorem tr_valid : validB trS trM 0 = true := by
  unfold validB
  rw [show trS.length = 3 from rfl, tr_sph]
  decide +kernel
theorem kk_valid : validB kkS kkM 0 = true := by
  unfold validB
  rw [show kkS.length = 1 from rfl, kk_sph]
  decide +kernel
theorem tr_faces : facesM trS trM 0 = [[0, 8, 4], [1, 7], [2, 6, 10], [3, 9], [5, 11]] := by
  unfold facesM; rw [if_pos tr_valid]; decide +kernel
theorem tr_strands : strandsM trS trM 0 = [[1, 6, 9, 2, 5, 10]] := by
  unfold strandsM; rw [if_pos tr_valid]; decide +kernel
theorem kk_faces : facesM kkS kkM 0 = [[0], [1, 3], [2]] := by
  unfold facesM; rw [if_pos kk_valid]; decide +kernel

end Go.Proofs.YtebliaclleplgaaDoor
