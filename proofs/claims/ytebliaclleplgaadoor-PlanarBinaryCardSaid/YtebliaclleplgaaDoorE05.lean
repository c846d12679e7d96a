import Derived.Test.YtebliaclleplgaaDoorE03
import Derived.ProofKit
import Derived.Lib.ItoaNum
/- Plain mathematics: all cycles of the wanted numbers together are a rearrangement of the wanted numbers. -/
namespace Go.Proofs.YtebliaclleplgaaDoor

/-- The first wanted numbers of the cycles. -/
def reprs (f : Nat → Nat) (N : Nat) (p : Nat → Bool) : List Nat := (List.range N).filter (sel f N p)
theorem reprs_mem {f : Nat → Nat} {N h : Nat} {p : Nat → Bool} : h ∈ reprs f N p ↔ h < N ∧ sel f N p h = true := by simp [reprs, List.mem_filter]
def flatN (f : Nat → Nat) (N : Nat) (p : Nat → Bool) : List Nat := ((reprs f N p).map (cyc f N)).flatten
def ClosedN (f : Nat → Nat) (N : Nat) (p : Nat → Bool) : Prop := ∀ h, h < N → p h = true → p (f h) = true
theorem ClosedN.it {f : Nat → Nat} {N : Nat} {p : Nat → Bool} (c : ClosedN f N p) (q : Perm f N) {h : Nat} (hh : h < N) (hp : p h = true) (i : Nat) : p (it f i h) = true := by
  induction i with
  | zero => exact hp
  | succ i ih => exact c _ (q.it_lt hh i) ih
theorem least_nat (P : Nat → Prop) : ∀ x, P x → ∃ y, P y ∧ ∀ z, z < y → ¬ P z := by
  intro x
  induction x using Nat.strongRecOn with
  | ind x ih =>
    intro hx
    by_cases e : ∃ z, z < x ∧ P z
    · obtain ⟨z, hz, hp⟩ := e; exact ih z hz hp
    · exact ⟨x, hx, fun z hz hp => e ⟨z, hz, hp⟩⟩
theorem reprs_ex {f : Nat → Nat} {N x : Nat} {p : Nat → Bool} (q : Perm f N) (hx : x < N) (hp : p x = true) : ∃ r, r ∈ reprs f N p ∧ Orb f r x := by
  obtain ⟨y, hy, hmin⟩ := least_nat (fun y => y < N ∧ p y = true ∧ Orb f y x) x ⟨hx, hp, Orb.refl f x⟩
  exact ⟨y, reprs_mem.2 ⟨hy.1, (q.sel_iff p hy.1).2 ⟨hy.2.1, fun h' hlt hp' o => hmin h' hlt ⟨by omega, hp', o.trans hy.2.2⟩⟩⟩, hy.2.2⟩
theorem reprs_uniq {f : Nat → Nat} {N a b x : Nat} {p : Nat → Bool} (q : Perm f N) (ha : a ∈ reprs f N p) (hb : b ∈ reprs f N p) (h1 : Orb f a x) (h2 : Orb f b x) : a = b := by
  obtain ⟨a1, a2⟩ := reprs_mem.1 ha
  obtain ⟨b1, b2⟩ := reprs_mem.1 hb
  have ha' := (q.sel_iff p a1).1 a2
  have hb' := (q.sel_iff p b1).1 b2
  have o1 := h1.trans (q.orb_symm b1 h2)
  have o2 := h2.trans (q.orb_symm a1 h1)
  rcases Nat.lt_trichotomy a b with k | k | k
  · exact absurd o1 (hb'.2 _ k ha'.1)
  · exact k
  · exact absurd o2 (ha'.2 _ k hb'.1)
theorem cyc_nodup {f : Nat → Nat} {N h : Nat} (q : Perm f N) (hh : h < N) : (cyc f N h).Nodup := by
  unfold cyc
  refine List.pairwise_map.2 (List.Pairwise.imp_of_mem (R := (· < ·)) (fun {a b} ha hb hab => ?_) List.pairwise_lt_range)
  exact q.it_ne hh hab (by simpa using hb)
theorem mem_flatN {f : Nat → Nat} {N x : Nat} {p : Nat → Bool} (q : Perm f N) (c : ClosedN f N p) : x ∈ flatN f N p ↔ x < N ∧ p x = true := by
  unfold flatN
  simp only [List.mem_flatten, List.mem_map]
  constructor
  · rintro ⟨l, ⟨r, hr, rfl⟩, hx⟩
    obtain ⟨r1, r2⟩ := reprs_mem.1 hr
    obtain ⟨i, _, rfl⟩ := q.orb_lt r1 ((q.mem_cyc r1 x).1 hx)
    exact ⟨q.it_lt r1 i, c.it q r1 ((q.sel_iff p r1).1 r2).1 i⟩
  · rintro ⟨hx, hp⟩
    obtain ⟨r, hr, o⟩ := reprs_ex q hx hp
    exact ⟨_, ⟨r, hr, rfl⟩, (q.mem_cyc (reprs_mem.1 hr).1 x).2 o⟩
theorem flatN_nodup {f : Nat → Nat} {N : Nat} {p : Nat → Bool} (q : Perm f N) : (flatN f N p).Nodup := by
  unfold flatN
  refine List.pairwise_flatten.2 ⟨fun l hl => ?_, ?_⟩
  · obtain ⟨r, hr, rfl⟩ := List.mem_map.1 hl
    exact cyc_nodup q (reprs_mem.1 hr).1
  · refine List.pairwise_map.2 (List.Pairwise.imp_of_mem (R := (· < ·)) (fun {a b} ha hb hab x hx y hy e => ?_) (List.Pairwise.filter _ List.pairwise_lt_range))
    have h1 := (q.mem_cyc (reprs_mem.1 ha).1 x).1 hx
    have h2 := (q.mem_cyc (reprs_mem.1 hb).1 y).1 hy
    rw [← e] at h2
    have := reprs_uniq q ha hb h1 h2
    omega
theorem flatN_perm {f : Nat → Nat} {N : Nat} {p : Nat → Bool} (q : Perm f N) (c : ClosedN f N p) : (flatN f N p).Perm ((List.range N).filter p) :=
  (List.perm_ext_iff_of_nodup (flatN_nodup q) (List.Pairwise.filter _ List.nodup_range)).2 fun x => by
    rw [mem_flatN q c, List.mem_filter, List.mem_range]
def lenSum (l : List Nat) (g : Nat → Nat) : Nat := (l.map g).sum
theorem flatN_length (f : Nat → Nat) (N : Nat) (p : Nat → Bool) : (flatN f N p).length = lenSum (reprs f N p) (per f N) := by
  unfold flatN lenSum
  rw [List.length_flatten, List.map_map]
  congr 1
  refine List.map_congr_left fun r _ => ?_
  simp [cyc]
/-- The lengths of the cycles of the wanted add up to the number of the wanted. -/
theorem sum_per {f : Nat → Nat} {N : Nat} {p : Nat → Bool} (q : Perm f N) (c : ClosedN f N p) : lenSum (reprs f N p) (per f N) = (List.range N).countP p := by
  rw [← flatN_length, (flatN_perm q c).length_eq, List.countP_eq_length_filter]
theorem cycL_reprs (f : Nat → Nat) (N : Nat) (p : Nat → Bool) : cycL f N p N = (reprs f N p).map (fun h => itl f h (per f N h)) := rfl
theorem cycL_get (f : Nat → Nat) (N : Nat) (p : Nat → Bool) {i : Nat} (hi : i < (cycL f N p N).length) : (reprs f N p).getD i 0 ∈ reprs f N p ∧ (cycL f N p N).getD i [] = itl f ((reprs f N p).getD i 0) (per f N ((reprs f N p).getD i 0)) := by
  rw [cycL_reprs] at hi ⊢
  rw [List.length_map] at hi
  have e : (reprs f N p).getD i 0 = (reprs f N p)[i] := by simp [List.getD, hi]
  rw [e]
  exact ⟨List.getElem_mem hi, by simp [List.getD, hi]⟩
theorem cycL_len (f : Nat → Nat) (N : Nat) (p : Nat → Bool) : (cycL f N p N).length = (reprs f N p).length := by rw [cycL_reprs, List.length_map]

/-- The lengths of the first i rows. -/
def totR (xss : List (List Int)) (i : Nat) : Nat := ((xss.take i).map List.length).sum
theorem totR_succ {xss : List (List Int)} {i : Nat} (h : i < xss.length) : totR xss (i + 1) = totR xss i + (xss.getD i []).length := by
  unfold totR
  rw [List.take_succ_eq_append_getElem h, List.map_append, List.sum_append]
  have e : xss.getD i [] = xss[i] := by simp [List.getD, h]
  rw [e]; simp
theorem totR_zero (xss : List (List Int)) : totR xss 0 = 0 := by simp [totR]
theorem totR_all {f : Nat → Nat} {N : Nat} {p : Nat → Bool} (q : Perm f N) (c : ClosedN f N p) : totR (cycL f N p N) (cycL f N p N).length = (List.range N).countP p := by
  unfold totR
  rw [List.take_length, cycL_reprs, List.map_map, ← sum_per q c]
  unfold lenSum
  congr 1
  exact List.map_congr_left fun r _ => by simp [itl]

end Go.Proofs.YtebliaclleplgaaDoor

/- The examples of the chapter, computed. -/
namespace Go.Proofs.YtebliaclleplgaaDoor
open Go.RowKit

def trS : List Int := [1, 1, 1]
def trM : List Int := [9, 4, 7, 10, 1, 8, 11, 2, 5, 0, 3, 6]
def kkS : List Int := [1]
def kkM : List Int := [1, 0, 3, 2]

theorem tr_lab : IsLab (matesOf trM) 12 3 (fun _ => 0) := by
  refine ⟨fun c hc => ⟨Nat.zero_le _, ?_⟩, fun _ _ => rfl⟩
  have h0 : Conn (matesOf trM) 12 0 2 := Conn.step 0 (by omega) (Conn.refl 0)
  have h1 : Conn (matesOf trM) 12 0 1 := Conn.step 1 (by omega) (Conn.refl 0)
  match c, hc with
  | 0, _ => exact .refl _
  | 1, _ => exact h1.symm
  | 2, _ => exact h0.symm
theorem kk_lab : IsLab (matesOf kkM) 4 1 (fun _ => 0) := by
  refine ⟨fun c hc => ⟨Nat.zero_le _, ?_⟩, fun _ _ => rfl⟩
  match c, hc with
  | 0, _ => exact .refl _
theorem tr_sph : sphM trM 3 = true := by
  show sphB (ufLab (matesOf trM) 12) (ff (matesOf trM)) (4 * 3) 3 = true
  rw [sphB_congr (G := fun _ => 0) fun c hc => (ufLab_isLab (matesOf trM) 12 3).unique tr_lab c hc]
  decide +kernel
theorem kk_sph : sphM kkM 1 = true := by
  show sphB (ufLab (matesOf kkM) 4) (ff (matesOf kkM)) (4 * 1) 1 = true
  rw [sphB_congr (G := fun _ => 0) fun c hc => (ufLab_isLab (matesOf kkM) 4 1).unique kk_lab c hc]
  decide +kernel
theorem tr_valid : validB trS trM 0 = true := by
  unfold validB
  rw [show trS.length = 3 from rfl, tr_sph]
  decide +kernel
theorem kk_valid : validB kkS kkM 0 = true := by
  unfold validB
  rw [show kkS.length = 1 from rfl, kk_sph]
  decide +kernel
theorem tr_faces : facesM trS trM 0 = [[0, 8, 4], [1, 7], [2, 6, 10], [3, 9], [5, 11]] := by
  unfold facesM; rw [if_pos tr_valid]; decide +kernel
theorem tr_strands : strandsM trS trM 0 = [[1, 6, 9, 2, 5, 10]] := by
  unfold strandsM; rw [if_pos tr_valid]; decide +kernel
theorem kk_faces : facesM kkS kkM 0 = [[0], [1, 3], [2]] := by
  unfold facesM; rw [if_pos kk_valid]; decide +kernel

end Go.Proofs.YtebliaclleplgaaDoor

/- Walk: the reference's Equal. -/
namespace Go.Proofs.YtebliaclleplgaaDoor
open Go.RowKit

def eqD (s m : List Int) (lp : Int) (s' m' : List Int) (lp' : Int) : Bool := decide (s = s') && decide (m = m') && decide (lp = lp')

set_option maxHeartbeats 1600000 in
theorem requal_any (A B A' B' : Option Addr) (ns cs nm cm ns' cs' nm' cm' : Nat) (lp lp' : Int) (s m s' m' : List Int) (w : World) (hs : RI w A ns s) (hm : RI w B nm m) (hs' : RI w A' ns' s') (hm' : RI w B' nm' m')
    (h1 : ns ≤ 1000000000000000) (h2 : nm ≤ 1000000000000000) (h3 : ns' ≤ 1000000000000000) (h4 : nm' ≤ 1000000000000000) :
    Calls Tryd.prog 23 #[dval A ns cs B nm cm lp, dval A' ns' cs' B' nm' cm' lp'] w fun e w' => e = .returned (.bool (eqD s m lp s' m' lp')) ∧ Below w.heap.size w w' := by
  have hba := below_alloc w (dbox A ns cs B nm cm lp)
  have hbb := below_alloc (w.alloc (dbox A ns cs B nm cm lp)) (dbox A' ns' cs' B' nm' cm' lp')
  have hb0 := below_step hba hbb
  have hd := (DB.new w A ns cs B nm cm lp).keep hbb
  have hd' := DB.new (w.alloc (dbox A ns cs B nm cm lp)) A' ns' cs' B' nm' cm' lp'
  have hsz : (w.alloc (dbox A ns cs B nm cm lp)).heap.size = w.heap.size + 1 := by simp
  rw [hsz] at hd'
  obtain ⟨d0, d1, d2, dlt⟩ := hd
  obtain ⟨e0, e1, e2, elt⟩ := hd'
  have C1 : ∀ W : World, Below w.heap.size w W → Hid (Calls Tryd.prog 56 #[.slice A ns cs, .slice A' ns' cs'] W fun e w' => e = .returned (.bool (decide (s = s'))) ∧ Below W.heap.size W w') := fun W hb => ints_r (decide (s = s')) A A' ns cs ns' cs' s s' W (hs.keep hb) (hs'.keep hb) h1 h3 rfl
  have C2 : ∀ W : World, Below w.heap.size w W → Hid (Calls Tryd.prog 56 #[.slice B nm cm, .slice B' nm' cm'] W fun e w' => e = .returned (.bool (decide (m = m'))) ∧ Below W.heap.size W w') := fun W hb => ints_r (decide (m = m')) B B' nm cm nm' cm' m m' W (hm.keep hb) (hm'.keep hb) h2 h4 rfl
  clear hba hbb hs hm hs' hm' h1 h2 h3 h4 hsz
  unfold eqD
  by_cases hss : s = s'
  · have es : decide (s = s') = true := by simp [hss]
    rw [es] at C1 ⊢
    by_cases hmm : m = m'
    · have em : decide (m = m') = true := by simp [hmm]
      rw [em] at C2 ⊢
      by_cases hl : lp = lp'
      · have el : decide (lp = lp') = true := by simp [hl]
        rw [el]
        subst hl
        clear hss hmm es em el
        go_enter Tryd.func23, Tryd.ntmps23
        go_wp2_with (first
          | (go_at_call 56; ((with_reducible refine (C1 _ hb0).out.mono ?_); rintro e w1 ⟨rfl, hb1⟩; have f0 := (hb1.cell (p := ⟨w.heap.size, 1, none⟩) dlt).trans d1; have f1 := (hb1.cell (p := ⟨w.heap.size, 2, none⟩) dlt).trans d2; have g0 := (hb1.cell (p := ⟨w.heap.size + 1, 1, none⟩) elt).trans e1; have g1 := (hb1.cell (p := ⟨w.heap.size + 1, 2, none⟩) elt).trans e2; have dlt1 := Nat.lt_of_lt_of_le dlt hb1.size; have elt1 := Nat.lt_of_lt_of_le elt hb1.size))
          | (go_at_call 56; ((with_reducible refine (C2 _ (below_step hb0 hb1)).out.mono ?_); rintro e w2 ⟨rfl, hb2⟩; have k0 := (hb2.cell (p := ⟨w.heap.size, 2, none⟩) dlt1).trans f1; have k1 := (hb2.cell (p := ⟨w.heap.size + 1, 2, none⟩) elt1).trans g1)))
        go_ret
        exact ⟨rfl, below_step (below_step hb0 hb1) hb2⟩
      · have el : decide (lp = lp') = false := by simp [hl]
        have el' : (lp == lp') = false := by simp only [beq_eq_false_iff_ne, ne_eq]; exact hl
        rw [el]
        clear hss hmm es em el
        go_enter Tryd.func23, Tryd.ntmps23
        go_wp2_with (first
          | (go_at_call 56; ((with_reducible refine (C1 _ hb0).out.mono ?_); rintro e w1 ⟨rfl, hb1⟩; have f0 := (hb1.cell (p := ⟨w.heap.size, 1, none⟩) dlt).trans d1; have f1 := (hb1.cell (p := ⟨w.heap.size, 2, none⟩) dlt).trans d2; have g0 := (hb1.cell (p := ⟨w.heap.size + 1, 1, none⟩) elt).trans e1; have g1 := (hb1.cell (p := ⟨w.heap.size + 1, 2, none⟩) elt).trans e2; have dlt1 := Nat.lt_of_lt_of_le dlt hb1.size; have elt1 := Nat.lt_of_lt_of_le elt hb1.size))
          | (go_at_call 56; ((with_reducible refine (C2 _ (below_step hb0 hb1)).out.mono ?_); rintro e w2 ⟨rfl, hb2⟩; have k0 := (hb2.cell (p := ⟨w.heap.size, 2, none⟩) dlt1).trans f1; have k1 := (hb2.cell (p := ⟨w.heap.size + 1, 2, none⟩) elt1).trans g1)))
        go_ret
        exact ⟨rfl, below_step (below_step hb0 hb1) hb2⟩
    · have em : decide (m = m') = false := by simp [hmm]
      rw [em] at C2 ⊢
      clear hss hmm es em
      go_enter Tryd.func23, Tryd.ntmps23
      go_wp2_with (first
        | (go_at_call 56; ((with_reducible refine (C1 _ hb0).out.mono ?_); rintro e w1 ⟨rfl, hb1⟩; have f0 := (hb1.cell (p := ⟨w.heap.size, 1, none⟩) dlt).trans d1; have f1 := (hb1.cell (p := ⟨w.heap.size, 2, none⟩) dlt).trans d2; have g0 := (hb1.cell (p := ⟨w.heap.size + 1, 1, none⟩) elt).trans e1; have g1 := (hb1.cell (p := ⟨w.heap.size + 1, 2, none⟩) elt).trans e2; have dlt1 := Nat.lt_of_lt_of_le dlt hb1.size; have elt1 := Nat.lt_of_lt_of_le elt hb1.size))
        | (go_at_call 56; ((with_reducible refine (C2 _ (below_step hb0 hb1)).out.mono ?_); rintro e w2 ⟨rfl, hb2⟩; have k0 := (hb2.cell (p := ⟨w.heap.size, 2, none⟩) dlt1).trans f1; have k1 := (hb2.cell (p := ⟨w.heap.size + 1, 2, none⟩) elt1).trans g1)))
      go_ret
      exact ⟨rfl, below_step (below_step hb0 hb1) hb2⟩
  · have es : decide (s = s') = false := by simp [hss]
    rw [es] at C1 ⊢
    clear hss es
    go_enter Tryd.func23, Tryd.ntmps23
    go_wp2_with (first
      | (go_at_call 56; ((with_reducible refine (C1 _ hb0).out.mono ?_); rintro e w1 ⟨rfl, hb1⟩; have f0 := (hb1.cell (p := ⟨w.heap.size, 1, none⟩) dlt).trans d1; have f1 := (hb1.cell (p := ⟨w.heap.size, 2, none⟩) dlt).trans d2; have g0 := (hb1.cell (p := ⟨w.heap.size + 1, 1, none⟩) elt).trans e1; have g1 := (hb1.cell (p := ⟨w.heap.size + 1, 2, none⟩) elt).trans e2; have dlt1 := Nat.lt_of_lt_of_le dlt hb1.size; have elt1 := Nat.lt_of_lt_of_le elt hb1.size))
      | (go_at_call 56; ((with_reducible refine (C2 _ (below_step hb0 hb1)).out.mono ?_); rintro e w2 ⟨rfl, hb2⟩; have k0 := (hb2.cell (p := ⟨w.heap.size, 2, none⟩) dlt1).trans f1; have k1 := (hb2.cell (p := ⟨w.heap.size + 1, 2, none⟩) elt1).trans g1)))
    go_ret
    exact ⟨rfl, below_step hb0 hb1⟩

end Go.Proofs.YtebliaclleplgaaDoor

/- Walk: slices.Equal of ints (XClone's part, for seats without slices.Clone). -/
namespace Go.Proofs.YtebliaclleplgaaDoor
open Go.ChangeShapes Go.WideShapes Go.ChangeAt Go.RowKit

set_option maxHeartbeats 800000 in
theorem sequal_r (r : Bool) (A B : Option Addr) (n c m d : Nat) (xs ys : List Int) (w : World) (hx : RI w A n xs) (hy : RI w B m ys) (hn : n ≤ 1000000000000000) (hm : m ≤ 1000000000000000) (hr : r = decide (xs = ys)) :
    Calls Tryd.prog 42 #[.slice A n c, .slice B m d] w fun e w' => e = .returned (.bool r) ∧ Below w.heap.size w w' := by
  have hlx := hx.1
  have hly := hy.1
  by_cases hnm : n = m
  · subst hnm
    have HLX := Lib.hid hlx
    have HLY := Lib.hid hly
    have HR := Lib.hid hr
    have HE : Hid (∀ j, j < 0 → xs.getD j 0 = ys.getD j 0) := fun j hj => absurd hj (by omega)
    clear hlx hly hr
    go_enter Tryd.func42, Tryd.ntmps42
    go_wp2
    go_loopw [5, 13] (fun _ i wr => ∃ k : Nat, k ≤ n ∧ i = .int .i64 k ∧ Below w.heap.size w wr ∧ Hid (∀ j, j < k → xs.getD j 0 = ys.getD j 0)) (fun _ i _ => n - (intOf i).toNat)
    case atStart => exact ⟨0, by omega, rfl, Below.refl _ _, HE⟩
    case round =>
      obtain ⟨k, hk, rfl, hbr, hall⟩ := hrel
      by_cases hlt : k < n
      · obtain ⟨b, off, rfl, hb, hc⟩ := (hx.keep hbr).2 (by omega)
        obtain ⟨b', off', rfl, hb', hc'⟩ := (hy.keep hbr).2 (by omega)
        have h1 := hc k hlt
        have h2 := hc' k hlt
        have hk0 : (0 : Int) ≤ (k : Int) := Int.natCast_nonneg _
        have hk1 : (k : Int) < (n : Int) := by omega
        by_cases he : xs.getD k 0 = ys.getD k 0
        · have hall' : Hid (∀ j, j < k + 1 → xs.getD j 0 = ys.getD j 0) := fun j hj => by
            by_cases e : j = k
            · subst e; exact he
            · exact hall.out j (by omega)
          rw [← he] at h2
          clear hx hy hc hc' he
          generalize xs.getD k 0 = x at *
          go_wp2
          go_quiet (fail)
          go_wp2
          go_roundw
          case rel => exact ⟨k + 1, by omega, by go_num, below_drewN hbr _, hall'⟩
          case measure => simp [intOf]; omega
        · have hne : (xs.getD k 0 != ys.getD k 0) = true := by simp only [bne_iff_ne, ne_eq]; exact he
          have hrf : r = false := by
            rw [HR.out, decide_eq_false_iff_not]
            intro e; exact he (by rw [e])
          subst hrf
          clear hx hy hc hc' he HR
          generalize xs.getD k 0 = x at *
          generalize ys.getD k 0 = y at *
          go_wp2
          go_quiet (fail)
          go_wp2
          go_ret
          exact ⟨rfl, below_drewN hbr _⟩
      · obtain rfl : k = n := by omega
        have hrt : r = true := by
          rw [HR.out, decide_eq_true_eq]
          exact eq_of_getD (by rw [HLX.out, HLY.out]) (fun j hj => hall.out j (by rw [← HLX.out]; exact hj))
        subst hrt
        clear hx hy HR
        go_wp2
        go_ret
        exact ⟨rfl, hbr⟩
  · have hrf : r = false := by
      rw [hr, decide_eq_false_iff_not]
      intro e; rw [e] at hlx; omega
    subst hrf
    have hne : ((n : Int) != (m : Int)) = true := by simp only [bne_iff_ne, ne_eq]; omega
    clear hx hy hlx hly hr hnm
    go_enter Tryd.func42, Tryd.ntmps42
    go_wp2
    go_ret
    exact ⟨rfl, Below.refl _ _⟩

end Go.Proofs.YtebliaclleplgaaDoor

/- Walk: Equal (XEq for seats without Clone). -/
namespace Go.Proofs.YtebliaclleplgaaDoor
open Go.RowKit

set_option maxHeartbeats 1600000 in
theorem equal_any (A B A' B' : Option Addr) (ns cs nm cm ns' cs' nm' cm' : Nat) (lp lp' : Int) (s m s' m' : List Int) (w : World) (hs : RI w A ns s) (hm : RI w B nm m) (hs' : RI w A' ns' s') (hm' : RI w B' nm' m')
    (h1 : ns ≤ 1000000000000000) (h2 : nm ≤ 1000000000000000) (h3 : ns' ≤ 1000000000000000) (h4 : nm' ≤ 1000000000000000) :
    Calls Tryd.prog 15 #[dval A ns cs B nm cm lp, dval A' ns' cs' B' nm' cm' lp'] w fun e w' => e = .returned (.bool (eqD s m lp s' m' lp')) ∧ Below w.heap.size w w' := by
  have hba := below_alloc w (dbox A ns cs B nm cm lp)
  have hbb := below_alloc (w.alloc (dbox A ns cs B nm cm lp)) (dbox A' ns' cs' B' nm' cm' lp')
  have hb0 := below_step hba hbb
  have hd := (DB.new w A ns cs B nm cm lp).keep hbb
  have hd' := DB.new (w.alloc (dbox A ns cs B nm cm lp)) A' ns' cs' B' nm' cm' lp'
  have hsz : (w.alloc (dbox A ns cs B nm cm lp)).heap.size = w.heap.size + 1 := by simp
  rw [hsz] at hd'
  obtain ⟨d0, d1, d2, dlt⟩ := hd
  obtain ⟨e0, e1, e2, elt⟩ := hd'
  have C1 : ∀ W : World, Below w.heap.size w W → Hid (Calls Tryd.prog 42 #[.slice A ns cs, .slice A' ns' cs'] W fun e w' => e = .returned (.bool (decide (s = s'))) ∧ Below W.heap.size W w') := fun W hb => sequal_r (decide (s = s')) A A' ns cs ns' cs' s s' W (hs.keep hb) (hs'.keep hb) h1 h3 rfl
  have C2 : ∀ W : World, Below w.heap.size w W → Hid (Calls Tryd.prog 42 #[.slice B nm cm, .slice B' nm' cm'] W fun e w' => e = .returned (.bool (decide (m = m'))) ∧ Below W.heap.size W w') := fun W hb => sequal_r (decide (m = m')) B B' nm cm nm' cm' m m' W (hm.keep hb) (hm'.keep hb) h2 h4 rfl
  clear hba hbb hs hm hs' hm' h1 h2 h3 h4 hsz
  unfold eqD
  by_cases hss : s = s'
  · have es : decide (s = s') = true := by simp [hss]
    rw [es] at C1 ⊢
    by_cases hmm : m = m'
    · have em : decide (m = m') = true := by simp [hmm]
      rw [em] at C2 ⊢
      by_cases hl : lp = lp'
      · have el : decide (lp = lp') = true := by simp [hl]
        rw [el]
        subst hl
        clear hss hmm es em el
        go_enter Tryd.func15, Tryd.ntmps15
        go_wp2_with (first
          | (go_at_call 42; ((with_reducible refine (C1 _ hb0).out.mono ?_); rintro e w1 ⟨rfl, hb1⟩; have f0 := (hb1.cell (p := ⟨w.heap.size, 1, none⟩) dlt).trans d1; have f1 := (hb1.cell (p := ⟨w.heap.size, 2, none⟩) dlt).trans d2; have g0 := (hb1.cell (p := ⟨w.heap.size + 1, 1, none⟩) elt).trans e1; have g1 := (hb1.cell (p := ⟨w.heap.size + 1, 2, none⟩) elt).trans e2; have dlt1 := Nat.lt_of_lt_of_le dlt hb1.size; have elt1 := Nat.lt_of_lt_of_le elt hb1.size))
          | (go_at_call 42; ((with_reducible refine (C2 _ (below_step hb0 hb1)).out.mono ?_); rintro e w2 ⟨rfl, hb2⟩; have k0 := (hb2.cell (p := ⟨w.heap.size, 2, none⟩) dlt1).trans f1; have k1 := (hb2.cell (p := ⟨w.heap.size + 1, 2, none⟩) elt1).trans g1)))
        go_ret
        exact ⟨rfl, below_step (below_step hb0 hb1) hb2⟩
      · have el : decide (lp = lp') = false := by simp [hl]
        have el' : (lp == lp') = false := by simp only [beq_eq_false_iff_ne, ne_eq]; exact hl
        rw [el]
        clear hss hmm es em el
        go_enter Tryd.func15, Tryd.ntmps15
        go_wp2_with (first
          | (go_at_call 42; ((with_reducible refine (C1 _ hb0).out.mono ?_); rintro e w1 ⟨rfl, hb1⟩; have f0 := (hb1.cell (p := ⟨w.heap.size, 1, none⟩) dlt).trans d1; have f1 := (hb1.cell (p := ⟨w.heap.size, 2, none⟩) dlt).trans d2; have g0 := (hb1.cell (p := ⟨w.heap.size + 1, 1, none⟩) elt).trans e1; have g1 := (hb1.cell (p := ⟨w.heap.size + 1, 2, none⟩) elt).trans e2; have dlt1 := Nat.lt_of_lt_of_le dlt hb1.size; have elt1 := Nat.lt_of_lt_of_le elt hb1.size))
          | (go_at_call 42; ((with_reducible refine (C2 _ (below_step hb0 hb1)).out.mono ?_); rintro e w2 ⟨rfl, hb2⟩; have k0 := (hb2.cell (p := ⟨w.heap.size, 2, none⟩) dlt1).trans f1; have k1 := (hb2.cell (p := ⟨w.heap.size + 1, 2, none⟩) elt1).trans g1)))
        go_ret
        exact ⟨rfl, below_step (below_step hb0 hb1) hb2⟩
    · have em : decide (m = m') = false := by simp [hmm]
      rw [em] at C2 ⊢
      clear hss hmm es em
      go_enter Tryd.func15, Tryd.ntmps15
      go_wp2_with (first
        | (go_at_call 42; ((with_reducible refine (C1 _ hb0).out.mono ?_); rintro e w1 ⟨rfl, hb1⟩; have f0 := (hb1.cell (p := ⟨w.heap.size, 1, none⟩) dlt).trans d1; have f1 := (hb1.cell (p := ⟨w.heap.size, 2, none⟩) dlt).trans d2; have g0 := (hb1.cell (p := ⟨w.heap.size + 1, 1, none⟩) elt).trans e1; have g1 := (hb1.cell (p := ⟨w.heap.size + 1, 2, none⟩) elt).trans e2; have dlt1 := Nat.lt_of_lt_of_le dlt hb1.size; have elt1 := Nat.lt_of_lt_of_le elt hb1.size))
        | (go_at_call 42; ((with_reducible refine (C2 _ (below_step hb0 hb1)).out.mono ?_); rintro e w2 ⟨rfl, hb2⟩; have k0 := (hb2.cell (p := ⟨w.heap.size, 2, none⟩) dlt1).trans f1; have k1 := (hb2.cell (p := ⟨w.heap.size + 1, 2, none⟩) elt1).trans g1)))
      go_ret
      exact ⟨rfl, below_step (below_step hb0 hb1) hb2⟩
  · have es : decide (s = s') = false := by simp [hss]
    rw [es] at C1 ⊢
    clear hss es
    go_enter Tryd.func15, Tryd.ntmps15
    go_wp2_with (first
      | (go_at_call 42; ((with_reducible refine (C1 _ hb0).out.mono ?_); rintro e w1 ⟨rfl, hb1⟩; have f0 := (hb1.cell (p := ⟨w.heap.size, 1, none⟩) dlt).trans d1; have f1 := (hb1.cell (p := ⟨w.heap.size, 2, none⟩) dlt).trans d2; have g0 := (hb1.cell (p := ⟨w.heap.size + 1, 1, none⟩) elt).trans e1; have g1 := (hb1.cell (p := ⟨w.heap.size + 1, 2, none⟩) elt).trans e2; have dlt1 := Nat.lt_of_lt_of_le dlt hb1.size; have elt1 := Nat.lt_of_lt_of_le elt hb1.size))
      | (go_at_call 42; ((with_reducible refine (C2 _ (below_step hb0 hb1)).out.mono ?_); rintro e w2 ⟨rfl, hb2⟩; have k0 := (hb2.cell (p := ⟨w.heap.size, 2, none⟩) dlt1).trans f1; have k1 := (hb2.cell (p := ⟨w.heap.size + 1, 2, none⟩) elt1).trans g1)))
    go_ret
    exact ⟨rfl, below_step hb0 hb1⟩

end Go.Proofs.YtebliaclleplgaaDoor

/- Walk: Strands. -/
namespace Go.Proofs.YtebliaclleplgaaDoor
open Go.RowKit

theorem next59 (A B : Option Addr) (ns cs nm cm gd : Nat) (lp : Int) (mate : List Int) (m : Nat → Nat) (w : World) (hd : DB w gd A ns cs B nm cm lp) (hm : RI w B nm mate) (hmm : Mates mate nm m) (hnm : nm ≤ 256) :
    Next w 47 gd (fs m) nm := fun W x hW hx => by
  have hb0 := hd.keep hW
  obtain ⟨d0, d1, d2, dlt⟩ := hb0
  have C := Lib.hid (nextstrand_nat A B ns cs nm cm lp mate m x W (hm.keep hW) hx hmm hnm _ rfl)
  clear hd hm hmm hW
  go_enter Tryd.func47, Tryd.ntmps47
  go_wp2_with (go_at_call 48; ((with_reducible refine C.out.mono ?_); rintro e w1 ⟨rfl, hb1⟩))
  go_ret
  exact ⟨rfl, hb1⟩
theorem asks58 (A B : Option Addr) (ns cs nm cm gd : Nat) (lp : Int) (signs : List Int) (w : World) (hd : DB w gd A ns cs B nm cm lp) (hs : RI w A ns signs) (hnm : nm = 4 * ns) (hns : ns ≤ 64) :
    Asks w 44 #[.pointer (some ⟨gd, 0, none⟩)] (outB signs) nm := fun W x hW hx => by
  show Calls Tryd.prog 44 #[.int .i64 (x : Nat), .pointer (some ⟨gd, 0, none⟩)] W _
  have hb0 := hd.keep hW
  obtain ⟨d0, d1, d2, dlt⟩ := hb0
  have C := Lib.hid (outgoing_any A B ns cs nm cm lp signs x W (hs.keep hW) (by omega) (by omega))
  clear hd hs hW hnm
  go_enter Tryd.func44, Tryd.ntmps44
  go_wp2_with (go_at_call 45; ((with_reducible refine C.out.mono ?_); rintro e w1 ⟨rfl, hb1⟩))
  go_ret
  exact ⟨rfl, hb1⟩


set_option maxHeartbeats 1600000 in
theorem strands_any (A B : Option Addr) (ns cs nm cm : Nat) (lp : Int) (signs mate : List Int) (w : World) (h : DV w A ns B nm signs mate) :
    Calls Tryd.prog 17 #[dval A ns cs B nm cm lp] w (CycsPost w (strandsM signs mate lp)) := by
  have hd := DB.new w A ns cs B nm cm lp
  obtain ⟨d0, d1, d2, dlt⟩ := hd
  have hb0 := below_alloc w (dbox A ns cs B nm cm lp)
  have hls := h.hs.1
  have hlm := h.hm.1
  cases hv : validB signs mate lp with
  | false =>
    have e : strandsM signs mate lp = [] := by simp [strandsM, hv]
    rw [e]
    have CV := Lib.hid ((h.keep hb0).valid cs cm lp false hv)
    clear e hv hls hlm
    go_enter Tryd.func17, Tryd.ntmps17
    go_wp2_with (go_at_call 13; ((with_reducible refine CV.out.mono ?_); rintro e w1 ⟨rfl, hb1⟩))
    go_ret
    exact ⟨_, rfl, OO.nil _ _, below_step hb0 hb1⟩
  | true =>
    have e : strandsM signs mate lp = cycL (fs (matesOf mate)) nm (outB signs) nm := by simp [strandsM, hv, hlm]
    rw [e]
    have CV := Lib.hid ((h.keep hb0).valid cs cm lp true hv)
    obtain ⟨v1, v2, v3, v4⟩ := validB_out hv
    rw [hls, hlm] at v1
    obtain ⟨l1, l2, l3, l4⟩ := limB_out v1
    have HM := Lib.hid (matesOf_mates v3 hlm)
    have HI := Lib.hid (matesOf_invol v3 hlm)
    have HL := Lib.hid l2
    have HD := Lib.hid (DB.new w A ns cs B nm cm lp)
    have CCf : ∀ w1 : World, Below (w.alloc (dbox A ns cs B nm cm lp)).heap.size (w.alloc (dbox A ns cs B nm cm lp)) w1 →
        Hid (Calls Tryd.prog 46 #[.int .i64 (nm : Nat), .func (.func 44) #[] #[.pointer (some ⟨w.heap.size, 0, none⟩)], .func (.func 47) #[] #[.pointer (some ⟨w.heap.size, 0, none⟩)]] w1 (CycsPost w1 (cycL (fs (matesOf mate)) nm (outB signs) nm))) := fun w1 hb1 =>
      cycles_any 47 44 w.heap.size nm #[.pointer (some ⟨w.heap.size, 0, none⟩)] (fs (matesOf mate)) (outB signs) w1 enters59 enters58
        (next59 A B ns cs nm cm w.heap.size lp mate (matesOf mate) w1 (HD.out.keep hb1) (h.hm.keep (below_step hb0 hb1)) HM.out (by have := HL.out; omega)) (asks58 A B ns cs nm cm w.heap.size lp signs w1 (HD.out.keep hb1) (h.hs.keep (below_step hb0 hb1)) HL.out l1) (by have := HI.out; rw [HL.out] at this ⊢; exact this.perm 2) (by have := HL.out; omega)
    clear e hv hls hlm v1 v2 v3 v4 l2
    go_enter Tryd.func17, Tryd.ntmps17
    have hmf : ∀ (fn : Fn) (first cap : Array Value) (w : World), (Instr.makeFunc fn first cap).run Tryd.prog w = .ok (.func fn first cap) w := fun _ _ _ _ => rfl
    go_wp2_with (first
      | (go_at_call 13; ((with_reducible refine CV.out.mono ?_); rintro e w1 ⟨rfl, hb1⟩; have d0' := (hb1.cell (p := ⟨w.heap.size, 0, none⟩) dlt).trans d0; have d1' := (hb1.cell (p := ⟨w.heap.size, 1, none⟩) dlt).trans d1; have d2' := (hb1.cell (p := ⟨w.heap.size, 2, none⟩) dlt).trans d2))
      | (go_at_call 46; ((with_reducible refine (CCf _ hb1).out.mono ?_); rintro e w2 ⟨v, rfl, hov, hb2⟩)))
    go_ret
    have hb01 := below_step hb0 hb1
    exact ⟨_, rfl, hov.mono hb01.size, below_step hb01 hb2⟩

end Go.Proofs.YtebliaclleplgaaDoor

/- Plain: the labels of the half-edges of a diagram, its text, its binary form. -/
namespace Go.Proofs.YtebliaclleplgaaDoor
open Go.RowKit

/-- The labels behind k places of the sequence. -/
def lbK (pM : Nat → Nat) (q : List Int) : Nat → Nat → Nat
  | 0 => fun _ => 0
  | k + 1 => upd (upd (lbK pM q k) (q.getD k 0).toNat (k + 1)) (pM (q.getD k 0).toNat) (k + 1)
theorem lbK_le (pM : Nat → Nat) (q : List Int) : ∀ k x, lbK pM q k x ≤ k
  | 0, _ => Nat.le_refl _
  | k + 1, x => by
    show upd (upd (lbK pM q k) (q.getD k 0).toNat (k + 1)) (pM (q.getD k 0).toNat) (k + 1) x ≤ k + 1
    unfold upd
    have := lbK_le pM q k x
    split
    · omega
    · split <;> omega
/-- The outgoing half-edges along the strands. -/
def seqM (s m : List Int) (lp : Int) : List Int := (strandsM s m lp).flatten
def lbM (s m : List Int) (lp : Int) : Nat → Nat := lbK (matesOf m) (seqM s m lp) (seqM s m lp).length

def lb4 (L : Nat → Nat) (c k : Nat) : List UInt8 := (List.range k).flatMap fun j => 32 :: Lib.decDigits (L (4 * c + j))
def sgT (x : Int) : List UInt8 := [if x = 1 then 43 else 45]
def rowT (s : List Int) (L : Nat → Nat) (c : Nat) : List UInt8 := sgT (s.getD c 0) ++ lb4 L c 4 ++ [10]
def rowsT (s : List Int) (L : Nat → Nat) (k : Nat) : List UInt8 := (List.range k).flatMap (rowT s L)
def lpT : List UInt8 := [108, 111, 111, 112, 115, 32]
/-- The text of a diagram with labels L. -/
def pnT (s : List Int) (L : Nat → Nat) (lp : Int) : List UInt8 := rowsT s L s.length ++ (lpT ++ Lib.decDigits lp.toNat ++ [10])
theorem lb4_succ (L : Nat → Nat) (c k : Nat) : lb4 L c (k + 1) = lb4 L c k ++ (32 :: Lib.decDigits (L (4 * c + k))) := by
  unfold lb4; rw [List.range_succ, List.flatMap_append]; simp
theorem rowsT_succ (s : List Int) (L : Nat → Nat) (k : Nat) : rowsT s L (k + 1) = rowsT s L k ++ rowT s L k := by
  unfold rowsT; rw [List.range_succ, List.flatMap_append]; simp
theorem dec_three (c : Nat) (h : c < 1000) : (Lib.decDigits c).length ≤ 3 := by
  unfold Lib.decDigits
  split
  · simp
  · unfold Lib.decDigits
    split
    · simp
    · unfold Lib.decDigits
      split
      · simp
      · omega
theorem lb4_len (L : Nat → Nat) (c : Nat) (h : ∀ j, L j < 1000) : ∀ k, (lb4 L c k).length ≤ 4 * k
  | 0 => Nat.le_refl _
  | k + 1 => by
    have := lb4_len L c h k
    have := dec_three _ (h (4 * c + k))
    rw [lb4_succ, List.length_append, List.length_cons]; omega
theorem rowT_len (s : List Int) (L : Nat → Nat) (c : Nat) (h : ∀ j, L j < 1000) : (rowT s L c).length ≤ 18 := by
  have := lb4_len L c h 4
  unfold rowT sgT
  simp only [List.length_append, List.length_cons, List.length_nil]; omega
theorem rowsT_len (s : List Int) (L : Nat → Nat) (h : ∀ j, L j < 1000) : ∀ k, (rowsT s L k).length ≤ 18 * k
  | 0 => Nat.le_refl _
  | k + 1 => by
    have := rowsT_len s L h k
    have := rowT_len s L k h
    rw [rowsT_succ, List.length_append]; omega

/-! The bits of the signs. -/
def btK (s : List Int) : Nat → Nat → Nat
  | 0 => fun _ => 0
  | k + 1 => if s.getD k 0 = 1 then upd (btK s k) (k / 8) (btK s k (k / 8) + 2 ^ (k % 8)) else btK s k
theorem btK_inv (s : List Int) : ∀ k, (∀ i, k / 8 < i → btK s k i = 0) ∧ btK s k (k / 8) < 2 ^ (k % 8) ∧ ∀ i, btK s k i < 256
  | 0 => ⟨fun _ _ => rfl, Nat.one_pos, fun _ => (by decide : 0 < 256)⟩
  | k + 1 => by
    obtain ⟨h1, h2, h3⟩ := btK_inv s k
    have hp : 2 ^ (k % 8) + 2 ^ (k % 8) = 2 ^ (k % 8 + 1) := by rw [Nat.pow_succ]; omega
    have hp8 : 2 ^ (k % 8 + 1) ≤ 2 ^ 8 := Nat.pow_le_pow_right (by decide) (by omega)
    have key : ∀ v : Nat → Nat, (∀ i, i ≠ k / 8 → v i = btK s k i) → v (k / 8) < 2 ^ (k % 8 + 1) → (∀ i, (k + 1) / 8 < i → v i = 0) ∧ v ((k + 1) / 8) < 2 ^ ((k + 1) % 8) ∧ ∀ i, v i < 256 := fun v e1 e2 => by
      refine ⟨fun i hi => by rw [e1 i (by omega)]; exact h1 i (by omega), ?_, fun i => ?_⟩
      · by_cases q : (k + 1) % 8 = 0
        · rw [e1 _ (by omega), h1 _ (by omega)]; exact Nat.two_pow_pos _
        · rw [show (k + 1) / 8 = k / 8 by omega, show (k + 1) % 8 = k % 8 + 1 by omega]; exact e2
      · by_cases q : i = k / 8
        · rw [q]; omega
        · rw [e1 i q]; exact h3 i
    show (∀ i, (k + 1) / 8 < i → (if s.getD k 0 = 1 then upd (btK s k) (k / 8) (btK s k (k / 8) + 2 ^ (k % 8)) else btK s k) i = 0) ∧ (if s.getD k 0 = 1 then upd (btK s k) (k / 8) (btK s k (k / 8) + 2 ^ (k % 8)) else btK s k) ((k + 1) / 8) < 2 ^ ((k + 1) % 8) ∧ ∀ i, (if s.getD k 0 = 1 then upd (btK s k) (k / 8) (btK s k (k / 8) + 2 ^ (k % 8)) else btK s k) i < 256
    split
    · exact key _ (fun i hi => upd_other _ _ _ _ hi) (by rw [upd_same]; omega)
    · exact key _ (fun i _ => rfl) (by omega)
/-- Later crossings do not change a byte that is full. -/
theorem btK_full (s : List Int) (i : Nat) : ∀ k d, 8 * i + 8 ≤ k → btK s (k + d) i = btK s k i
  | _, 0, _ => rfl
  | k, d + 1, h => by
    rw [← btK_full s i k d h]
    show (if s.getD (k + d) 0 = 1 then upd (btK s (k + d)) ((k + d) / 8) (btK s (k + d) ((k + d) / 8) + 2 ^ ((k + d) % 8)) else btK s (k + d)) i = _
    split
    · rw [upd_other _ _ _ _ (by omega)]
    · rfl
theorem btK_or (s : List Int) (k : Nat) : btK s k (k / 8) ||| 2 ^ (k % 8) = btK s k (k / 8) + 2 ^ (k % 8) := by
  have := Nat.two_pow_add_eq_or_of_lt (btK_inv s k).2.1 1
  rw [Nat.mul_one] at this
  rw [Nat.or_comm, ← this, Nat.add_comm]
/-- The bytes of the signs, the mates of the outgoing half-edges, the binary form. -/
def btL (s : List Int) (n : Nat) : List Int := (List.range ((n + 7) / 8)).map fun i => (btK s n i : Int)
def mtL (s : List Int) (pM : Nat → Nat) (k : Nat) : List Int := ((List.range k).filter (outB s)).map fun h => (pM h : Int)
def enL (s : List Int) (pM : Nat → Nat) (lp : Int) (k : Nat) : List Int := (s.length : Int) :: lp :: (btL s s.length ++ mtL s pM k)
theorem mtL_succ (s : List Int) (pM : Nat → Nat) (k : Nat) : mtL s pM (k + 1) = if outB s k = true then mtL s pM k ++ [(pM k : Int)] else mtL s pM k := by
  unfold mtL
  rw [List.range_succ, List.filter_append, List.map_append]
  cases h : outB s k <;> simp [h]
theorem mtL_le (s : List Int) (pM : Nat → Nat) (k : Nat) : (mtL s pM k).length ≤ k := by
  unfold mtL; rw [List.length_map]; exact Nat.le_trans (List.length_filter_le _ _) (by simp)
theorem btL_len (s : List Int) (n : Nat) : (btL s n).length = (n + 7) / 8 := by simp [btL]
theorem enL_succ (s : List Int) (pM : Nat → Nat) (lp : Int) (k : Nat) : enL s pM lp (k + 1) = if outB s k = true then enL s pM lp k ++ [(pM k : Int)] else enL s pM lp k := by
  unfold enL
  rw [mtL_succ]
  split
  · simp
  · rfl

end Go.Proofs.YtebliaclleplgaaDoor

/- Plain mathematics: each number bears the index of the row that it lies in. -/
namespace Go.Proofs.YtebliaclleplgaaDoor

/-- The first j of a row get the colour i. -/
def hueRow (xs : List Int) (i : Nat) : Nat → (Nat → Nat) → Nat → Nat
  | 0, V => V
  | j + 1, V => fun x => if (x : Int) = xs.getD j 0 then i else hueRow xs i j V x
def hue (xss : List (List Int)) : Nat → Nat → Nat
  | 0 => fun _ => 0
  | i + 1 => hueRow (xss.getD i []) i (xss.getD i []).length (hue xss i)
theorem hueRow_in {xs : List Int} {i j q x : Nat} {V : Nat → Nat} (hq : q < j) (e : xs.getD q 0 = x) : hueRow xs i j V x = i := by
  induction j with
  | zero => omega
  | succ j ih =>
    show (if (x : Int) = xs.getD j 0 then i else hueRow xs i j V x) = i
    by_cases h : q = j
    · subst h; rw [e]; simp
    · split
      · rfl
      · exact ih (by omega)
theorem hueRow_out {xs : List Int} {i j x : Nat} {V : Nat → Nat} (hx : ∀ q, q < j → xs.getD q 0 ≠ x) : hueRow xs i j V x = V x := by
  induction j with
  | zero => rfl
  | succ j ih =>
    show (if (x : Int) = xs.getD j 0 then i else hueRow xs i j V x) = V x
    rw [if_neg (fun e => hx j (by omega) e.symm)]
    exact ih fun q hq => hx q (by omega)
theorem getD_mem_int {xs : List Int} {q : Nat} (hq : q < xs.length) : xs.getD q 0 ∈ xs := by
  have e : xs.getD q 0 = xs[q] := by simp [List.getD, hq]
  rw [e]; exact List.getElem_mem hq
theorem hue_done {xss : List (List Int)} {a x : Nat} (hx : (x : Int) ∈ xss.getD a []) (hu : ∀ b, b < xss.length → b ≠ a → (x : Int) ∉ xss.getD b []) {i : Nat} (ha : a < i) (hi : i ≤ xss.length) : hue xss i x = a := by
  induction i with
  | zero => omega
  | succ i ih =>
    show hueRow (xss.getD i []) i _ (hue xss i) x = a
    by_cases e : a = i
    · subst e
      obtain ⟨q, hq, k⟩ := List.getElem_of_mem hx
      exact hueRow_in (q := q) hq (by have e : (xss.getD a []).getD q 0 = (xss.getD a [])[q] := by generalize xss.getD a [] = ys at hq ⊢; simp [List.getD, hq]
                                      rw [e, k])
    · rw [hueRow_out fun q hq k => hu i (by omega) (Ne.symm e) (by rw [← k]; exact getD_mem_int hq)]
      exact ih (by omega) (by omega)

theorem mem_memb {F : Nat → Nat} {n l x : Nat} : (x : Int) ∈ memb F n l ↔ x < n ∧ F x = l := by
  unfold memb
  simp only [List.mem_map, List.mem_filter, List.mem_range, beq_iff_eq]
  constructor
  · rintro ⟨b, ⟨h1, h2⟩, e⟩
    have : b = x := by omega
    subst this; exact ⟨h1, h2⟩
  · rintro ⟨h1, h2⟩
    exact ⟨x, ⟨h1, h2⟩, rfl⟩
theorem mem_memb_nat {F : Nat → Nat} {n l : Nat} {y : Int} (h : y ∈ memb F n l) : ∃ x : Nat, y = x ∧ x < n ∧ F x = l := by
  unfold memb at h
  obtain ⟨b, hb, e⟩ := List.mem_map.1 h
  have hb' := List.mem_filter.1 hb
  exact ⟨b, e.symm, List.mem_range.1 hb'.1, by simpa using hb'.2⟩
theorem roots_nodup (F : Nat → Nat) (n : Nat) : (roots F n).Nodup := List.Pairwise.filter _ List.nodup_range
theorem graphL_get (F : Nat → Nat) (n : Nat) {a : Nat} (ha : a < (graphL F n).length) : ∃ h : a < (roots F n).length, (graphL F n).getD a [] = memb F n (roots F n)[a] := by
  have h : a < (roots F n).length := by rw [← graphL_length]; exact ha
  exact ⟨h, by unfold graphL; simp [List.getD, h]⟩
/-- All painted: numbers of one component bear one colour. -/
theorem hue_same {F : Nat → Nat} {n x y : Nat} (hle : ∀ b, F b ≤ b) (hid : ∀ b, F (F b) = F b) (hx : x < n) (hy : y < n) (e : F x = F y) : hue (graphL F n) (graphL F n).length x = hue (graphL F n) (graphL F n).length y := by
  have hm : F x ∈ roots F n := by
    unfold roots
    rw [List.mem_filter, List.mem_range]
    exact ⟨by have := hle x; omega, by simp [hid]⟩
  obtain ⟨a, ha, ea⟩ := List.getElem_of_mem hm
  have hal : a < (graphL F n).length := by rw [graphL_length]; exact ha
  obtain ⟨h1, h2⟩ := graphL_get F n hal
  have key : ∀ z, z < n → F z = F x → hue (graphL F n) (graphL F n).length z = a := fun z hz ez => by
    refine hue_done (by rw [h2]; exact mem_memb.2 ⟨hz, by rw [ez, ea]⟩) (fun b hb hne hin => ?_) hal (Nat.le_refl _)
    obtain ⟨g1, g2⟩ := graphL_get F n hb
    rw [g2] at hin
    obtain ⟨_, k⟩ := mem_memb.1 hin
    rw [ez, ← ea] at k
    exact hne ((List.getElem_inj (roots_nodup F n)).1 k).symm
  rw [key x hx rfl, key y hy e.symm]

/-- Two of each four are wanted. -/
theorem count_two (p : Nat → Bool) (n : Nat) (h : ∀ c, c < n → (List.range 4).countP (fun s => p (4 * c + s)) = 2) : (List.range (4 * n)).countP p = 2 * n := by
  induction n with
  | zero => rfl
  | succ n ih =>
    have h1 := ih fun c hc => h c (by omega)
    have h2 := h n (by omega)
    rw [show 4 * (n + 1) = 4 * n + 1 + 1 + 1 + 1 by omega, List.range_succ, List.range_succ, List.range_succ, List.range_succ]
    simp only [List.countP_append, List.countP_cons, List.countP_nil]
    simp only [List.range_succ, List.range_zero, List.nil_append, List.countP_append, List.countP_cons, List.countP_nil, Nat.add_zero] at h2
    rw [show 4 * n + 1 + 1 = 4 * n + 2 by omega, show 4 * n + 2 + 1 = 4 * n + 3 by omega]
    omega

end Go.Proofs.YtebliaclleplgaaDoor

/- Plain facts of a valid diagram. -/
namespace Go.Proofs.YtebliaclleplgaaDoor
open Go.RowKit

theorem bk_data {signs mate : List Int} {lp : Int} (hv : validB signs mate lp = true) : ∃ n, signs.length = n ∧ mate.length = 4 * n ∧ Invol (matesOf mate) (4 * n) ∧ (∀ x, x < 4 * n → matesOf mate x ≠ x) ∧
    sphB (ufLab (matesOf mate) (4 * n)) (fun x => trn (matesOf mate x) 3) (4 * n) n = true := by
  obtain ⟨v1, v2, v3, v4⟩ := validB_out hv
  obtain ⟨l1, l2, l3, l4⟩ := limB_out v1
  have hi := matesOf_invol v3 l2
  refine ⟨signs.length, rfl, l2, hi, fun x hx e => ?_, ?_⟩
  · obtain ⟨m, h1, h2, h3, h4⟩ := pOK_out ((pairB_iff _ _).1 v3 x (by omega)) l2
    have e2 : matesOf mate x = m := by unfold matesOf; rw [h1]; simp
    rw [e2] at e
    rw [e] at h4
    exact h4 rfl
  · unfold sphM at v4
    rw [l2] at v4
    exact v4
theorem bk_count {s : List Int} {n : Nat} (h : sgnsB s = true) (hl : s.length = n) : (List.range (4 * n)).countP (outB s) = 2 * n := by
  refine count_two _ n fun c hc => ?_
  have hg := (sgnsB_iff _).1 h c (by omega)
  have e0 : outB s (4 * c) = false := by unfold outB; rw [show 4 * c % 4 = 0 by omega]; simp
  have e1 : outB s (4 * c + 1) = (s.getD c 0 == 1) := by unfold outB; rw [show (4 * c + 1) % 4 = 1 by omega, show (4 * c + 1) / 4 = c by omega]; simp
  have e2 : outB s (4 * c + 2) = true := by unfold outB; rw [show (4 * c + 2) % 4 = 2 by omega]; simp
  have e3 : outB s (4 * c + 3) = (s.getD c 0 == -1) := by unfold outB; rw [show (4 * c + 3) % 4 = 3 by omega, show (4 * c + 3) / 4 = c by omega]; simp
  have hr : List.range 4 = [0, 1, 2, 3] := rfl
  rw [hr]
  simp only [List.countP_cons, List.countP_nil, Nat.add_zero, e0, e1, e2, e3]
  unfold sgB at hg
  simp only [Bool.or_eq_true, beq_iff_eq] at hg
  rcases hg with e | e <;> rw [e] <;> rfl

theorem trn_two (h : Nat) : trn (trn h 2) 2 = h := by unfold trn; omega
structure BkF (s m : List Int) (lp : Int) : Prop where
  lm : m.length = 4 * s.length
  le : s.length ≤ 64
  p : Perm (fs (matesOf m)) m.length
  c : ClosedN (fs (matesOf m)) m.length (outB s)
  i : Invol (matesOf m) m.length
  sg : sgnsB s = true
  pr : pairB s m = true
  lim : limB s.length m.length lp = true
theorem bk_facts {s m : List Int} {lp : Int} (hv : validB s m lp = true) : BkF s m lp := by
  obtain ⟨v1, v2, v3, v4⟩ := validB_out hv
  obtain ⟨l1, l2, l3, l4⟩ := limB_out v1
  have hi : Invol (matesOf m) m.length := matesOf_invol v3 rfl
  refine ⟨l2, l1, ?_, fun h hh ho => out_closed v2 v3 rfl rfl l2 h hh ho, hi, v2, v3, v1⟩
  have := hi
  rw [l2] at this ⊢
  exact this.perm 2

end Go.Proofs.YtebliaclleplgaaDoor

/- Plain: the outgoing half-edges along the strands, each once. -/
namespace Go.Proofs.YtebliaclleplgaaDoor
open Go.RowKit

theorem seq_flat {s m : List Int} {lp : Int} (hv : validB s m lp = true) : seqM s m lp = (flatN (fs (matesOf m)) m.length (outB s)).map (fun x : Nat => (x : Int)) := by
  unfold seqM strandsM
  rw [if_pos hv, cycL_reprs]
  unfold flatN
  rw [List.map_flatten, List.map_map]
  congr 1
  refine List.map_congr_left fun h _ => ?_
  simp [itl, cyc, List.map_map, Function.comp_def]
theorem seq_len {s m : List Int} {lp : Int} (hv : validB s m lp = true) : (seqM s m lp).length = 2 * s.length := by
  have F := bk_facts hv
  rw [seq_flat hv, List.length_map, flatN_length, sum_per F.p F.c, F.lm, bk_count F.sg rfl]
theorem seq_at {s m : List Int} {lp : Int} (hv : validB s m lp = true) {k : Nat} (hk : k < 2 * s.length) : ∃ h : Nat, (seqM s m lp).getD k 0 = (h : Int) ∧ h < m.length ∧ outB s h = true := by
  have F := bk_facts hv
  have hl := seq_len hv
  rw [seq_flat hv, List.length_map] at hl
  have hk' : k < (flatN (fs (matesOf m)) m.length (outB s)).length := by omega
  refine ⟨(flatN (fs (matesOf m)) m.length (outB s))[k], by rw [seq_flat hv]; simp [List.getD, hk'], ?_⟩
  have hm := (flatN_perm F.p F.c).mem_iff.1 (List.getElem_mem hk')
  rw [List.mem_filter, List.mem_range] at hm
  exact hm
theorem strands_ne {s m : List Int} {lp : Int} {j : Nat} (hj : j < (strandsM s m lp).length) : 0 < ((strandsM s m lp).getD j []).length := by
  unfold strandsM at hj ⊢
  split at hj
  · next hv =>
    rw [if_pos hv]
    rw [cycL_reprs] at hj ⊢
    simp only [List.length_map] at hj
    simp only [List.getD, List.getElem?_map, List.getElem?_eq_getElem hj, Option.map_some, Option.getD_some]
    rw [itl_length]
    exact per_pos _ _ _
  · simp at hj

end Go.Proofs.YtebliaclleplgaaDoor

/- Plain: what is read from bytes. -/
namespace Go.Proofs.YtebliaclleplgaaDoor
open Go.RowKit

def yN (ys : List Int) (i : Nat) : Nat := (ys.getD i 0).toNat
def byteL (ys : List Int) : Prop := ∀ i, 0 ≤ ys.getD i 0 ∧ ys.getD i 0 < 256
theorem yN_cast {ys : List Int} (h : byteL ys) (i : Nat) : ys.getD i 0 = (yN ys i : Int) ∧ yN ys i < 256 := by
  have := h i
  unfold yN; omega
def bitY (ys : List Int) (i : Nat) : Nat := yN ys (i / 8) / 2 ^ (i % 8) % 2
def sgY (ys : List Int) (n : Nat) : List Int := (List.range n).map fun i => 2 * (bitY ys i : Int) - 1
/-- Is an unused bit set? -/
def unY (ys : List Int) (n : Nat) : Bool := decide (n % 8 ≠ 0) && decide (yN ys (n / 8) / 2 ^ (n % 8) ≠ 0)
theorem sgY_len (ys : List Int) (n : Nat) : (sgY ys n).length = n := by simp [sgY]
theorem sgY_get {ys : List Int} {n i : Nat} (hi : i < n) : (sgY ys n).getD i 0 = 2 * (bitY ys i : Int) - 1 := by simp [sgY, List.getD, hi]
theorem sgY_sg (ys : List Int) (n : Nat) : sgnsB (sgY ys n) = true := by
  refine (sgnsB_iff _).2 fun j hj => ?_
  rw [sgY_len] at hj
  unfold sgB
  rw [sgY_get hj]
  have : bitY ys j < 2 := Nat.mod_lt _ (by decide)
  have h2 : bitY ys j = 0 ∨ bitY ys j = 1 := by omega
  rcases h2 with e | e <;> rw [e] <;> rfl

/-- What is known while the mates are read: how many, the mates, those that are taken; whether all was well. -/
structure MS where
  nx : Nat
  M : Nat → Nat
  T : List Nat
  ok : Bool
def msStep (sg : List Int) (Y : Nat → Nat) (N4 h : Nat) (st : MS) : MS :=
  if st.ok = false then st else if outB sg h = false then st else
    if N4 ≤ Y st.nx ∨ outB sg (Y st.nx) = true ∨ Y st.nx ∈ st.T then ⟨st.nx, st.M, st.T, false⟩
    else ⟨st.nx + 1, upd (upd st.M h (Y st.nx)) (Y st.nx) h, st.T ++ [Y st.nx], true⟩
def msK (sg : List Int) (Y : Nat → Nat) (N4 : Nat) : Nat → MS
  | 0 => ⟨0, fun _ => 0, [], true⟩
  | k + 1 => msStep sg Y N4 k (msK sg Y N4 k)
theorem msK_bad {sg : List Int} {Y : Nat → Nat} {N4 k : Nat} (h : (msK sg Y N4 k).ok = false) : ∀ d, (msK sg Y N4 (k + d)).ok = false
  | 0 => h
  | d + 1 => by
    have := msK_bad h d
    show (msStep sg Y N4 (k + d) (msK sg Y N4 (k + d))).ok = false
    unfold msStep
    rw [if_pos this]; exact this
/-- As long as all is well, as many are read as there were outgoing half-edges, and what is laid lies in its range. -/
theorem msK_inv {sg : List Int} {Y : Nat → Nat} {N4 : Nat} : ∀ k, k ≤ N4 → (msK sg Y N4 k).ok = true → (msK sg Y N4 k).nx = (List.range k).countP (outB sg) ∧ (∀ x, (msK sg Y N4 k).M x < N4 ∨ (msK sg Y N4 k).M x = 0) ∧ (∀ x ∈ (msK sg Y N4 k).T, x < N4) ∧ (msK sg Y N4 k).T.length ≤ k
  | 0, _, _ => ⟨rfl, fun _ => .inr rfl, fun x hx => by simp [msK] at hx, Nat.le_refl _⟩
  | k + 1, hk, h => by
    have hok : (msK sg Y N4 k).ok = true := by
      cases e : (msK sg Y N4 k).ok with
      | true => rfl
      | false => have := msK_bad e 1; rw [this] at h; cases h
    obtain ⟨h1, h2, h3, h4⟩ := msK_inv k (by omega) hok
    have hst : msK sg Y N4 (k + 1) = msStep sg Y N4 k (msK sg Y N4 k) := rfl
    rw [hst] at h ⊢
    rw [List.range_succ, List.countP_append]
    unfold msStep at h ⊢
    rw [if_neg (by rw [hok]; decide)] at h ⊢
    cases ho : outB sg k with
    | false =>
      rw [if_pos rfl]
      exact ⟨by simp [h1, ho], h2, h3, by omega⟩
    | true =>
      rw [ho, if_neg (by decide)] at h
      rw [if_neg (by decide)]
      split at h
      · cases h
      · next hc =>
        rw [if_neg hc]
        have hy : Y (msK sg Y N4 k).nx < N4 := by
          rcases Nat.lt_or_ge (Y (msK sg Y N4 k).nx) N4 with q | q
          · exact q
          · exact absurd (.inl q) hc
        refine ⟨by simp [h1, ho], fun x => ?_, fun x hx => ?_, by simp; omega⟩
        · show upd (upd _ _ _) _ _ x < N4 ∨ upd (upd _ _ _) _ _ x = 0
          unfold upd
          split
          · left; omega
          · split
            · left; exact hy
            · exact h2 x
        · rcases List.mem_append.1 hx with q | q
          · exact h3 x q
          · rw [List.mem_singleton.1 q]; exact hy
/-- Where another one is read there is one. -/
theorem ms_room {sg : List Int} {Y : Nat → Nat} {n k : Nat} (hs : sgnsB sg = true) (hl : sg.length = n) (hk : k < 4 * n) (h : (msK sg Y (4 * n) k).ok = true) (ho : outB sg k = true) : (msK sg Y (4 * n) k).nx < 2 * n := by
  have h1 := (msK_inv k (by omega) h).1
  have h2 := bk_count hs hl
  have e : List.range (4 * n) = List.range (k + 1) ++ (List.range (4 * n - (k + 1))).map (fun x => k + 1 + x) := by
    rw [← List.range_add]; congr 1; omega
  rw [e, List.countP_append, List.range_succ, List.countP_append] at h2
  simp [ho] at h2
  omega
def lnM (n : Nat) (M : Nat → Nat) : List Int := (List.range n).map fun x => (M x : Int)
theorem lnM_len (n : Nat) (M : Nat → Nat) : (lnM n M).length = n := by simp [lnM]

/-- What bytes are decoded as. -/
structure Dec where
  E : Int
  s : List Int
  m : List Int
  lp : Int
def decBits (xs : List Int) (n : Nat) : List Int := (xs.drop 2).take ((n + 7) / 8)
def decMates (xs : List Int) (n : Nat) : List Int := xs.drop (2 + (n + 7) / 8)
def decEnd (n : Nat) : Nat := 2 + (n + 7) / 8 + 2 * n
def decM (xs : List Int) : Dec :=
  if xs.length < 2 then ⟨4, [], [], 0⟩
  else if 64 < yN xs 0 ∨ 64 < yN xs 1 then ⟨5, [], [], 0⟩
  else if xs.length < decEnd (yN xs 0) then ⟨4, [], [], 0⟩
  else if decEnd (yN xs 0) < xs.length then ⟨3, [], [], 0⟩
  else if unY (decBits xs (yN xs 0)) (yN xs 0) = true then ⟨3, [], [], 0⟩
  else if (msK (sgY (decBits xs (yN xs 0)) (yN xs 0)) (yN (decMates xs (yN xs 0))) (4 * yN xs 0) (4 * yN xs 0)).ok = false then ⟨3, [], [], 0⟩
  else if validB (sgY (decBits xs (yN xs 0)) (yN xs 0)) (lnM (4 * yN xs 0) (msK (sgY (decBits xs (yN xs 0)) (yN xs 0)) (yN (decMates xs (yN xs 0))) (4 * yN xs 0) (4 * yN xs 0)).M) (yN xs 1) = true then
    ⟨0, sgY (decBits xs (yN xs 0)) (yN xs 0), lnM (4 * yN xs 0) (msK (sgY (decBits xs (yN xs 0)) (yN xs 0)) (yN (decMates xs (yN xs 0))) (4 * yN xs 0) (4 * yN xs 0)).M, yN xs 1⟩
  else ⟨7, [], [], 0⟩

end Go.Proofs.YtebliaclleplgaaDoor
