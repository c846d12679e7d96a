import Derived.Test.YtdacjnmfmhkpiaaGreatDoorZ07
import Derived.Test.YtdacjnmfmhkpiaaGreatDoorZ20
import Derived.Test.YtdacjnmfmhkpiaaGreatDoorZ05
import Derived.Test.YtdacjnmfmhkpiaaGreatDoorZ18
import Derived.Test.YtdacjnmfmhkpiaaGreatDoorZ21
import Derived.Test.YtdacjnmfmhkpiaaGreatDoorZ06
/- Walks: Equal, the reference's Equal. -/
namespace Go.Proofs.YtdacjnmfmhkpiaaGreatDoor
open Go.RowKit

def eqD (s m : List Int) (lp : Int) (s' m' : List Int) (lp' : Int) : Bool := decide (s = s') && decide (m = m') && decide (lp = lp')

set_option maxHeartbeats 1600000 in
theorem equal_any (A B A' B' : Option Addr) (ns cs nm cm ns' cs' nm' cm' : Nat) (lp lp' : Int) (s m s' m' : List Int) (w : World) (hs : RI w A ns s) (hm : RI w B nm m) (hs' : RI w A' ns' s') (hm' : RI w B' nm' m')
    (h1 : ns ≤ 1000000000000000) (h2 : nm ≤ 1000000000000000) (h3 : ns' ≤ 1000000000000000) (h4 : nm' ≤ 1000000000000000) :
    Calls Tryz.prog 22 #[dval A ns cs B nm cm lp, dval A' ns' cs' B' nm' cm' lp'] w fun e w' => e = .returned (.bool (eqD s m lp s' m' lp')) ∧ Below w.heap.size w w' := by
  have hba := below_alloc w (dbox A ns cs B nm cm lp)
  have hbb := below_alloc (w.alloc (dbox A ns cs B nm cm lp)) (dbox A' ns' cs' B' nm' cm' lp')
  have hb0 := below_step hba hbb
  have hd := (DB.new w A ns cs B nm cm lp).keep hbb
  have hd' := DB.new (w.alloc (dbox A ns cs B nm cm lp)) A' ns' cs' B' nm' cm' lp'
  have hsz : (w.alloc (dbox A ns cs B nm cm lp)).heap.size = w.heap.size + 1 := by simp
  rw [hsz] at hd'
  obtain ⟨d0, d1, d2, dlt⟩ := hd
  obtain ⟨e0, e1, e2, elt⟩ := hd'
  have C1 : ∀ W : World, Below w.heap.size w W → Hid (Calls Tryz.prog 51 #[.slice A ns cs, .slice A' ns' cs'] W fun e w' => e = .returned (.bool (decide (s = s'))) ∧ Below W.heap.size W w') := fun W hb => sequal_r (decide (s = s')) A A' ns cs ns' cs' s s' W (hs.keep hb) (hs'.keep hb) h1 h3 rfl
  have C2 : ∀ W : World, Below w.heap.size w W → Hid (Calls Tryz.prog 51 #[.slice B nm cm, .slice B' nm' cm'] W fun e w' => e = .returned (.bool (decide (m = m'))) ∧ Below W.heap.size W w') := fun W hb => sequal_r (decide (m = m')) B B' nm cm nm' cm' m m' W (hm.keep hb) (hm'.keep hb) h2 h4 rfl
  clear hba hbb hs hm hs' hm' h1 h2 h3 h4 hsz
  unfold eqD
  by_cases hss : s = s'
  · have es : decide (s = s') = true := by simp [hss]
    rw [es] at C1 ⊢
    by_cases hmm : m = m'
    · have em : decide (m = m') = true := by simp [hmm]
      rw [em] at C2 ⊢
      by_cases hl : lp = lp'
      · have el : decide (lp = lp') = true := by simp [hl]
        rw [el]
        subst hl
        clear hss hmm es em el
        go_enter Tryz.func22, Tryz.ntmps22
        go_wp2_with (first
          | (go_at_call 51; ((with_reducible refine (C1 _ hb0).out.mono ?_); rintro e w1 ⟨rfl, hb1⟩; have f0 := (hb1.cell (p := ⟨w.heap.size, 1, none⟩) dlt).trans d1; have f1 := (hb1.cell (p := ⟨w.heap.size, 2, none⟩) dlt).trans d2; have g0 := (hb1.cell (p := ⟨w.heap.size + 1, 1, none⟩) elt).trans e1; have g1 := (hb1.cell (p := ⟨w.heap.size + 1, 2, none⟩) elt).trans e2; have dlt1 := Nat.lt_of_lt_of_le dlt hb1.size; have elt1 := Nat.lt_of_lt_of_le elt hb1.size))
          | (go_at_call 51; ((with_reducible refine (C2 _ (below_step hb0 hb1)).out.mono ?_); rintro e w2 ⟨rfl, hb2⟩; have k0 := (hb2.cell (p := ⟨w.heap.size, 2, none⟩) dlt1).trans f1; have k1 := (hb2.cell (p := ⟨w.heap.size + 1, 2, none⟩) elt1).trans g1)))
        go_ret
        exact ⟨rfl, below_step (below_step hb0 hb1) hb2⟩
      · have el : decide (lp = lp') = false := by simp [hl]
        have el' : (lp == lp') = false := by simp only [beq_eq_false_iff_ne, ne_eq]; exact hl
        rw [el]
        clear hss hmm es em el
        go_enter Tryz.func22, Tryz.ntmps22
        go_wp2_with (first
          | (go_at_call 51; ((with_reducible refine (C1 _ hb0).out.mono ?_); rintro e w1 ⟨rfl, hb1⟩; have f0 := (hb1.cell (p := ⟨w.heap.size, 1, none⟩) dlt).trans d1; have f1 := (hb1.cell (p := ⟨w.heap.size, 2, none⟩) dlt).trans d2; have g0 := (hb1.cell (p := ⟨w.heap.size + 1, 1, none⟩) elt).trans e1; have g1 := (hb1.cell (p := ⟨w.heap.size + 1, 2, none⟩) elt).trans e2; have dlt1 := Nat.lt_of_lt_of_le dlt hb1.size; have elt1 := Nat.lt_of_lt_of_le elt hb1.size))
          | (go_at_call 51; ((with_reducible refine (C2 _ (below_step hb0 hb1)).out.mono ?_); rintro e w2 ⟨rfl, hb2⟩; have k0 := (hb2.cell (p := ⟨w.heap.size, 2, none⟩) dlt1).trans f1; have k1 := (hb2.cell (p := ⟨w.heap.size + 1, 2, none⟩) elt1).trans g1)))
        go_ret
        exact ⟨rfl, below_step (below_step hb0 hb1) hb2⟩
    · have em : decide (m = m') = false := by simp [hmm]
      rw [em] at C2 ⊢
      clear hss hmm es em
      go_enter Tryz.func22, Tryz.ntmps22
      go_wp2_with (first
        | (go_at_call 51; ((with_reducible refine (C1 _ hb0).out.mono ?_); rintro e w1 ⟨rfl, hb1⟩; have f0 := (hb1.cell (p := ⟨w.heap.size, 1, none⟩) dlt).trans d1; have f1 := (hb1.cell (p := ⟨w.heap.size, 2, none⟩) dlt).trans d2; have g0 := (hb1.cell (p := ⟨w.heap.size + 1, 1, none⟩) elt).trans e1; have g1 := (hb1.cell (p := ⟨w.heap.size + 1, 2, none⟩) elt).trans e2; have dlt1 := Nat.lt_of_lt_of_le dlt hb1.size; have elt1 := Nat.lt_of_lt_of_le elt hb1.size))
        | (go_at_call 51; ((with_reducible refine (C2 _ (below_step hb0 hb1)).out.mono ?_); rintro e w2 ⟨rfl, hb2⟩; have k0 := (hb2.cell (p := ⟨w.heap.size, 2, none⟩) dlt1).trans f1; have k1 := (hb2.cell (p := ⟨w.heap.size + 1, 2, none⟩) elt1).trans g1)))
      go_ret
      exact ⟨rfl, below_step (below_step hb0 hb1) hb2⟩
  · have es : decide (s = s') = false := by simp [hss]
    rw [es] at C1 ⊢
    clear hss es
    go_enter Tryz.func22, Tryz.ntmps22
    go_wp2_with (first
      | (go_at_call 51; ((with_reducible refine (C1 _ hb0).out.mono ?_); rintro e w1 ⟨rfl, hb1⟩; have f0 := (hb1.cell (p := ⟨w.heap.size, 1, none⟩) dlt).trans d1; have f1 := (hb1.cell (p := ⟨w.heap.size, 2, none⟩) dlt).trans d2; have g0 := (hb1.cell (p := ⟨w.heap.size + 1, 1, none⟩) elt).trans e1; have g1 := (hb1.cell (p := ⟨w.heap.size + 1, 2, none⟩) elt).trans e2; have dlt1 := Nat.lt_of_lt_of_le dlt hb1.size; have elt1 := Nat.lt_of_lt_of_le elt hb1.size))
      | (go_at_call 51; ((with_reducible refine (C2 _ (below_step hb0 hb1)).out.mono ?_); rintro e w2 ⟨rfl, hb2⟩; have k0 := (hb2.cell (p := ⟨w.heap.size, 2, none⟩) dlt1).trans f1; have k1 := (hb2.cell (p := ⟨w.heap.size + 1, 2, none⟩) elt1).trans g1)))
    go_ret
    exact ⟨rfl, below_step hb0 hb1⟩

set_option maxHeartbeats 1600000 in
theorem requal_any (A B A' B' : Option Addr) (ns cs nm cm ns' cs' nm' cm' : Nat) (lp lp' : Int) (s m s' m' : List Int) (w : World) (hs : RI w A ns s) (hm : RI w B nm m) (hs' : RI w A' ns' s') (hm' : RI w B' nm' m')
    (h1 : ns ≤ 1000000000000000) (h2 : nm ≤ 1000000000000000) (h3 : ns' ≤ 1000000000000000) (h4 : nm' ≤ 1000000000000000) :
    Calls Tryz.prog 27 #[dval A ns cs B nm cm lp, dval A' ns' cs' B' nm' cm' lp'] w fun e w' => e = .returned (.bool (eqD s m lp s' m' lp')) ∧ Below w.heap.size w w' := by
  have hba := below_alloc w (dbox A ns cs B nm cm lp)
  have hbb := below_alloc (w.alloc (dbox A ns cs B nm cm lp)) (dbox A' ns' cs' B' nm' cm' lp')
  have hb0 := below_step hba hbb
  have hd := (DB.new w A ns cs B nm cm lp).keep hbb
  have hd' := DB.new (w.alloc (dbox A ns cs B nm cm lp)) A' ns' cs' B' nm' cm' lp'
  have hsz : (w.alloc (dbox A ns cs B nm cm lp)).heap.size = w.heap.size + 1 := by simp
  rw [hsz] at hd'
  obtain ⟨d0, d1, d2, dlt⟩ := hd
  obtain ⟨e0, e1, e2, elt⟩ := hd'
  have C1 : ∀ W : World, Below w.heap.size w W → Hid (Calls Tryz.prog 40 #[.slice A ns cs, .slice A' ns' cs'] W fun e w' => e = .returned (.bool (decide (s = s'))) ∧ Below W.heap.size W w') := fun W hb => ints_r (decide (s = s')) A A' ns cs ns' cs' s s' W (hs.keep hb) (hs'.keep hb) h1 h3 rfl
  have C2 : ∀ W : World, Below w.heap.size w W → Hid (Calls Tryz.prog 40 #[.slice B nm cm, .slice B' nm' cm'] W fun e w' => e = .returned (.bool (decide (m = m'))) ∧ Below W.heap.size W w') := fun W hb => ints_r (decide (m = m')) B B' nm cm nm' cm' m m' W (hm.keep hb) (hm'.keep hb) h2 h4 rfl
  clear hba hbb hs hm hs' hm' h1 h2 h3 h4 hsz
  unfold eqD
  by_cases hss : s = s'
  · have es : decide (s = s') = true := by simp [hss]
    rw [es] at C1 ⊢
    by_cases hmm : m = m'
    · have em : decide (m = m') = true := by simp [hmm]
      rw [em] at C2 ⊢
      by_cases hl : lp = lp'
      · have el : decide (lp = lp') = true := by simp [hl]
        rw [el]
        subst hl
        clear hss hmm es em el
        go_enter Tryz.func27, Tryz.ntmps27
        go_wp2_with (first
          | (go_at_call 40; ((with_reducible refine (C1 _ hb0).out.mono ?_); rintro e w1 ⟨rfl, hb1⟩; have f0 := (hb1.cell (p := ⟨w.heap.size, 1, none⟩) dlt).trans d1; have f1 := (hb1.cell (p := ⟨w.heap.size, 2, none⟩) dlt).trans d2; have g0 := (hb1.cell (p := ⟨w.heap.size + 1, 1, none⟩) elt).trans e1; have g1 := (hb1.cell (p := ⟨w.heap.size + 1, 2, none⟩) elt).trans e2; have dlt1 := Nat.lt_of_lt_of_le dlt hb1.size; have elt1 := Nat.lt_of_lt_of_le elt hb1.size))
          | (go_at_call 40; ((with_reducible refine (C2 _ (below_step hb0 hb1)).out.mono ?_); rintro e w2 ⟨rfl, hb2⟩; have k0 := (hb2.cell (p := ⟨w.heap.size, 2, none⟩) dlt1).trans f1; have k1 := (hb2.cell (p := ⟨w.heap.size + 1, 2, none⟩) elt1).trans g1)))
        go_ret
        exact ⟨rfl, below_step (below_step hb0 hb1) hb2⟩
      · have el : decide (lp = lp') = false := by simp [hl]
        have el' : (lp == lp') = false := by simp only [beq_eq_false_iff_ne, ne_eq]; exact hl
        rw [el]
        clear hss hmm es em el
        go_enter Tryz.func27, Tryz.ntmps27
        go_wp2_with (first
          | (go_at_call 40; ((with_reducible refine (C1 _ hb0).out.mono ?_); rintro e w1 ⟨rfl, hb1⟩; have f0 := (hb1.cell (p := ⟨w.heap.size, 1, none⟩) dlt).trans d1; have f1 := (hb1.cell (p := ⟨w.heap.size, 2, none⟩) dlt).trans d2; have g0 := (hb1.cell (p := ⟨w.heap.size + 1, 1, none⟩) elt).trans e1; have g1 := (hb1.cell (p := ⟨w.heap.size + 1, 2, none⟩) elt).trans e2; have dlt1 := Nat.lt_of_lt_of_le dlt hb1.size; have elt1 := Nat.lt_of_lt_of_le elt hb1.size))
          | (go_at_call 40; ((with_reducible refine (C2 _ (below_step hb0 hb1)).out.mono ?_); rintro e w2 ⟨rfl, hb2⟩; have k0 := (hb2.cell (p := ⟨w.heap.size, 2, none⟩) dlt1).trans f1; have k1 := (hb2.cell (p := ⟨w.heap.size + 1, 2, none⟩) elt1).trans g1)))
        go_ret
        exact ⟨rfl, below_step (below_step hb0 hb1) hb2⟩
    · have em : decide (m = m') = false := by simp [hmm]
      rw [em] at C2 ⊢
      clear hss hmm es em
      go_enter Tryz.func27, Tryz.ntmps27
      go_wp2_with (first
        | (go_at_call 40; ((with_reducible refine (C1 _ hb0).out.mono ?_); rintro e w1 ⟨rfl, hb1⟩; have f0 := (hb1.cell (p := ⟨w.heap.size, 1, none⟩) dlt).trans d1; have f1 := (hb1.cell (p := ⟨w.heap.size, 2, none⟩) dlt).trans d2; have g0 := (hb1.cell (p := ⟨w.heap.size + 1, 1, none⟩) elt).trans e1; have g1 := (hb1.cell (p := ⟨w.heap.size + 1, 2, none⟩) elt).trans e2; have dlt1 := Nat.lt_of_lt_of_le dlt hb1.size; have elt1 := Nat.lt_of_lt_of_le elt hb1.size))
        | (go_at_call 40; ((with_reducible refine (C2 _ (below_step hb0 hb1)).out.mono ?_); rintro e w2 ⟨rfl, hb2⟩; have k0 := (hb2.cell (p := ⟨w.heap.size, 2, none⟩) dlt1).trans f1; have k1 := (hb2.cell (p := ⟨w.heap.size + 1, 2, none⟩) elt1).trans g1)))
      go_ret
      exact ⟨rfl, below_step (below_step hb0 hb1) hb2⟩
  · have es : decide (s = s') = false := by simp [hss]
    rw [es] at C1 ⊢
    clear hss es
    go_enter Tryz.func27, Tryz.ntmps27
    go_wp2_with (first
      | (go_at_call 40; ((with_reducible refine (C1 _ hb0).out.mono ?_); rintro e w1 ⟨rfl, hb1⟩; have f0 := (hb1.cell (p := ⟨w.heap.size, 1, none⟩) dlt).trans d1; have f1 := (hb1.cell (p := ⟨w.heap.size, 2, none⟩) dlt).trans d2; have g0 := (hb1.cell (p := ⟨w.heap.size + 1, 1, none⟩) elt).trans e1; have g1 := (hb1.cell (p := ⟨w.heap.size + 1, 2, none⟩) elt).trans e2; have dlt1 := Nat.lt_of_lt_of_le dlt hb1.size; have elt1 := Nat.lt_of_lt_of_le elt hb1.size))
      | (go_at_call 40; ((with_reducible refine (C2 _ (below_step hb0 hb1)).out.mono ?_); rintro e w2 ⟨rfl, hb2⟩; have k0 := (hb2.cell (p := ⟨w.heap.size, 2, none⟩) dlt1).trans f1; have k1 := (hb2.cell (p := ⟨w.heap.size + 1, 2, none⟩) elt1).trans g1)))
    go_ret
    exact ⟨rfl, below_step hb0 hb1⟩

end Go.Proofs.YtdacjnmfmhkpiaaGreatDoor

/- Walks: Valid and the reference's Valid, of diagrams of any size. -/
namespace Go.Proofs.YtdacjnmfmhkpiaaGreatDoor
open Go.RowKit

set_option maxHeartbeats 800000 in
theorem limits_all (A B : Option Addr) (ns cs nm cm : Nat) (lp : Int) (w : World) :
    Calls Tryz.prog 42 #[dval A ns cs B nm cm lp] w fun e w' => e = .returned (.bool (limB ns nm lp)) ∧ Below w.heap.size w w' := by
  by_cases h1 : ns ≤ 64
  · by_cases h2 : nm = 4 * ns
    · subst h2
      by_cases h3 : 0 ≤ lp
      · by_cases h4 : lp ≤ 64
        · have e : limB ns (4 * ns) lp = true := by simp [limB, *]
          rw [e]; clear e
          go_enter Tryz.func42, Tryz.ntmps42
          go_wp2
          go_ret
          exact ⟨rfl, below_alloc _ _⟩
        · have e : limB ns (4 * ns) lp = false := by simp [limB, *]
          rw [e]; clear e
          have h4' : 64 < lp := by omega
          go_enter Tryz.func42, Tryz.ntmps42
          go_wp2
          go_ret
          exact ⟨rfl, below_alloc _ _⟩
      · have e : limB ns (4 * ns) lp = false := by simp [limB, *]
        rw [e]; clear e
        have h4' : lp < 0 := by omega
        go_enter Tryz.func42, Tryz.ntmps42
        go_wp2
        go_ret
        exact ⟨rfl, below_alloc _ _⟩
    · have e : limB ns nm lp = false := by simp [limB, *]
      rw [e]; clear e
      have h4 : ((nm : Int) == 4 * (ns : Int)) = false := by simp; omega
      go_enter Tryz.func42, Tryz.ntmps42
      go_wp2
      go_ret
      exact ⟨rfl, below_alloc _ _⟩
  · have e : limB ns nm lp = false := by simp [limB, *]
    rw [e]; clear e
    have h4' : 64 < ns := by omega
    go_enter Tryz.func42, Tryz.ntmps42
    go_wp2
    go_ret
    exact ⟨rfl, below_alloc _ _⟩

set_option maxHeartbeats 1600000 in
set_option maxRecDepth 100000 in
theorem rvalid_limA (A B : Option Addr) (ns cs nm cm : Nat) (lp : Int) (w : World) (hl : limB ns nm lp = false) :
    Calls Tryz.prog 14 #[dval A ns cs B nm cm lp] w fun e w' => e = .returned (.bool false) ∧ Below w.heap.size w w' := by
  by_cases h1 : ns ≤ 64
  · by_cases h2 : nm = 4 * ns
    · subst h2
      by_cases h3 : 0 ≤ lp
      · have h4' : 64 < lp := by
          by_cases h4 : lp ≤ 64
          · simp [limB, *] at hl
          · omega
        clear hl
        go_enter Tryz.func14, Tryz.ntmps14
        go_wp2
        go_ret
        exact ⟨rfl, below_alloc _ _⟩
      · have h4' : lp < 0 := by omega
        clear hl h3
        go_enter Tryz.func14, Tryz.ntmps14
        go_wp2
        go_ret
        exact ⟨rfl, below_alloc _ _⟩
    · have h4 : ((nm : Int) != 4 * (ns : Int)) = true := by simp only [bne_iff_ne, ne_eq]; omega
      clear hl h2
      go_enter Tryz.func14, Tryz.ntmps14
      go_wp2
      go_ret
      exact ⟨rfl, below_alloc _ _⟩
  · have h4' : 64 < ns := by omega
    clear hl h1
    go_enter Tryz.func14, Tryz.ntmps14
    go_wp2
    go_ret
    exact ⟨rfl, below_alloc _ _⟩

set_option maxHeartbeats 1600000 in
theorem valid_limA (A B : Option Addr) (ns cs nm cm : Nat) (lp : Int) (w : World) (hl : limB ns nm lp = false) :
    Calls Tryz.prog 18 #[dval A ns cs B nm cm lp] w fun e w' => e = .returned (.bool false) ∧ Below w.heap.size w w' := by
  obtain ⟨d0, d1, d2, dlt⟩ := DB.new w A ns cs B nm cm lp
  have hb0 := below_alloc w (dbox A ns cs B nm cm lp)
  have HC1 := Lib.hid (limits_all A B ns cs nm cm lp (w.alloc (dbox A ns cs B nm cm lp)))
  rw [hl] at HC1
  clear hl
  go_enter Tryz.func18, Tryz.ntmps18
  go_wp2_with (go_at_call 42; ((with_reducible refine HC1.out.mono ?_); rintro e w1 ⟨rfl, hb1⟩))
  go_ret
  exact ⟨rfl, below_step hb0 hb1⟩
theorem mt_in {m : List Int} (h : ∀ z ∈ m, inI z) (j : Nat) : -9223372036854775808 ≤ mt m j ∧ mt m j ≤ 9223372036854775807 := by
  unfold mt
  rcases Nat.lt_or_ge j m.length with hj | hj
  · have e : m.getD j 0 = m[j] := by simp [List.getD, hj]
    rw [e]; exact h _ (List.getElem_mem hj)
  · have e : m.getD j 0 = 0 := by simp [List.getD, hj]
    rw [e]; omega
theorem lim_small {ns nm : Nat} {lp : Int} (h : limB ns nm lp = true) : ns ≤ 64 ∧ nm ≤ 256 := by have := limB_out h; omega
/-- A diagram within the limits is a small one. -/
theorem DV.lim {w : World} {A B : Option Addr} {ns nm : Nat} {s m : List Int} {lp : Int} (hs : RI w A ns s) (hm : RI w B nm m) (hmI : ∀ z ∈ m, inI z) (hl : limB ns nm lp = true) : DV w A ns B nm s m :=
  ⟨hs, hm, by have := lim_small hl; omega, by have := lim_small hl; omega, fun j _ => mt_in hmI j⟩
theorem validB_limA {s m : List Int} {lp : Int} {ns nm : Nat} (hs : s.length = ns) (hm : m.length = nm) (hl : limB ns nm lp = false) : validB s m lp = false := by
  unfold validB; rw [hs, hm, hl]; rfl
theorem DV.valid' {w : World} {A B : Option Addr} {ns nm : Nat} {s m : List Int} {lp : Int} (hs : RI w A ns s) (hm : RI w B nm m) (hmI : ∀ z ∈ m, inI z) (hv : validB s m lp = true) : DV w A ns B nm s m := by
  cases hl : limB ns nm lp with
  | true => exact DV.lim hs hm hmI hl
  | false => rw [validB_limA hs.1 hm.1 hl] at hv; cases hv
theorem valid_all {A B : Option Addr} {ns nm : Nat} (cs cm : Nat) {lp : Int} {s m : List Int} {w : World} (hs : RI w A ns s) (hm : RI w B nm m) (hmI : ∀ z ∈ m, inI z) (r : Bool) (hr : validB s m lp = r) :
    Calls Tryz.prog 18 #[dval A ns cs B nm cm lp] w fun e w' => e = .returned (.bool r) ∧ Below w.heap.size w w' := by
  cases hl : limB ns nm lp with
  | true => exact (DV.lim hs hm hmI hl).valid cs cm lp r hr
  | false =>
    rw [validB_limA hs.1 hm.1 hl] at hr
    subst hr
    exact valid_limA A B ns cs nm cm lp w hl
theorem rvalid_all {A B : Option Addr} {ns nm : Nat} (cs cm : Nat) {lp : Int} {s m : List Int} {w : World} (hs : RI w A ns s) (hm : RI w B nm m) (hmI : ∀ z ∈ m, inI z) (r : Bool) (hr : validB s m lp = r) :
    Calls Tryz.prog 14 #[dval A ns cs B nm cm lp] w fun e w' => e = .returned (.bool r) ∧ Below w.heap.size w w' := by
  cases hl : limB ns nm lp with
  | true => exact (DV.lim hs hm hmI hl).rvalid cs cm lp r hr
  | false =>
    rw [validB_limA hs.1 hm.1 hl] at hr
    subst hr
    exact rvalid_limA A B ns cs nm cm lp w hl

end Go.Proofs.YtdacjnmfmhkpiaaGreatDoor

/- Walk: the law GaussReturns. -/
namespace Go.Proofs.YtdacjnmfmhkpiaaGreatDoor
open Go.ChangeShapes Go.WideShapes Go.ChangeAt Go.RowKit Go.Joins

theorem eqD_same (s m : List Int) (lp : Int) : eqD s m lp s m lp = true := by simp [eqD]
structure CdF (s m : List Int) (lp : Int) (ns nm : Nat) (V : List (List Vis)) : Prop where
  gv : gvalB V s lp = true
  gen : genC V s = 0
  mate : mateL s V = m
  flat : V.flatten.length = 2 * ns
  len : V.length ≤ 256
  ns64 : ns ≤ 64
  nm4 : nm = 4 * ns
  lp0 : 0 ≤ lp
  lp1 : lp ≤ 64
  comp : compM s m lp = (V.length : Int) + lp
theorem code_facts {s m : List Int} {lp : Int} {ns nm : Nat} (hv : validB s m lp = true) (hls : s.length = ns) (hlm : m.length = nm) : CdF s m lp ns nm (codeC s m lp) := by
  have F := bk_facts hv
  have G := gv_facts (codeC_gval hv)
  have h1 := F.lm
  have h2 := F.le
  have h3 := G.len
  have h4 := len_flat G.ne
  refine ⟨codeC_gval hv, codeC_genus hv, codeC_mateL hv, by omega, by omega, by omega, by omega, G.lp0, G.lp1, ?_⟩
  rw [compM_add hv]
  unfold codeC
  rw [List.length_map]

set_option maxHeartbeats 12800000 in
set_option maxRecDepth 100000 in
theorem returns_walk (A B : Option Addr) (ns cs nm cm : Nat) (lp : Int) (s m : List Int) (w : World) (hs : RI w A ns s) (hm : RI w B nm m) (hmI : ∀ z ∈ m, inI z) (ht : TabW w) :
    Calls Tryz.prog 4 #[dval A ns cs B nm cm lp] w fun e w' => e = .returned (.bool true) ∧ Below w.heap.size w w' := by
  have hd := DB.new w A ns cs B nm cm lp
  have hb0 := below_alloc w (dbox A ns cs B nm cm lp)
  have HTW : ∀ W, Below w.heap.size w W → Hid (Calls Tryz.prog 12 #[] W fun e w' => e = .returned (.bool true) ∧ Below W.heap.size W w') := fun W hb => gawake_any W (ht.keep hb)
  clear ht
  obtain ⟨d0, d1, d2, dlt⟩ := hd
  by_cases h14 : ns ≤ 14
  · have hs1 : (ns : Int) ≤ 14 := by omega
    cases hv : validB s m lp with
    | false =>
      have CV : ∀ W, Below w.heap.size w W → Hid (Calls Tryz.prog 18 #[dval A ns cs B nm cm lp] W fun e w' => e = .returned (.bool false) ∧ Below W.heap.size W w') := fun W hb => valid_all cs cm (hs.keep hb) (hm.keep hb) hmI false hv
      clear hv hs hm hmI
      go_enter Tryz.func4, Tryz.ntmps4
      go_wp2_with (first
        | (go_at_call 12; ((with_reducible refine (HTW _ hb02).out.mono ?_); rintro e w3 ⟨rfl, hb3⟩))
        | (go_at_call 12; ((with_reducible refine (HTW _ hb0).out.mono ?_); rintro e w1 ⟨rfl, hb1⟩; have hb01 := below_step hb0 hb1; have e0 := (hb1.cell (p := ⟨w.heap.size, 0, none⟩) dlt).trans d0; have e1 := (hb1.cell (p := ⟨w.heap.size, 1, none⟩) dlt).trans d1; have e2 := (hb1.cell (p := ⟨w.heap.size, 2, none⟩) dlt).trans d2))
        | (go_at_call 18; ((with_reducible refine (CV _ hb01).out.mono ?_); rintro e w2 ⟨rfl, hb2⟩; have hb02 := below_step hb01 hb2)))
      go_ret
      exact ⟨rfl, below_step hb02 hb3⟩
    | true =>
      have H := Lib.hid (DV.valid' hs hm hmI hv)
      have K := Lib.hid (code_facts hv hs.1 hm.1)
      have CV : ∀ W, Below w.heap.size w W → Hid (Calls Tryz.prog 18 #[dval A ns cs B nm cm lp] W fun e w' => e = .returned (.bool true) ∧ Below W.heap.size W w') := fun W hb => valid_all cs cm (hs.keep hb) (hm.keep hb) hmI true hv
      have CO : ∀ W, Below w.heap.size w W → Hid (Calls Tryz.prog 13 #[dval A ns cs B nm cm lp] W (OfPost s m lp ns W)) := fun W hb => of_yes A B ns cs nm cm lp s m W (H.out.keep hb) hv
      have CC : ∀ W, Below w.heap.size w W → Hid (Calls Tryz.prog 23 #[dval A ns cs B nm cm lp] W fun e w' => e = .returned (.int .i64 (compM s m lp)) ∧ Below W.heap.size W w') := fun W hb => components_any A B ns cs nm cm lp s m W (H.out.keep hb)
      rw [K.out.comp] at CC
      unfold OfPost at CO
      obtain ⟨V, hV⟩ : ∃ V, codeC s m lp = V := ⟨_, rfl⟩
      simp only [hV] at CO K CC
      clear hV hv
      have k1 : V.flatten.length ≤ 128 := by have := K.out.flat; have := K.out.ns64; omega
      have k2 := K.out.len
      have k3 := K.out.ns64
      have k4 : nm ≤ 256 := by have := K.out.nm4; omega
      have k5 := K.out.lp0
      have k6 := K.out.lp1
      have CD : ∀ (C S : Option Addr) (nc cc sc : Nat) (W : World), RVV W C nc V → RI W S ns s → Hid (Calls Tryz.prog 19 #[dval C nc cc S ns sc lp] W fun e w' => ∃ P pc R, e = .returned (.tuple #[dval P ns pc R nm nm lp, .int .i64 0]) ∧ RI w' P ns s ∧ RI w' R nm m ∧ Below W.heap.size W w') := fun C S nc cc sc W hC hS => by
        have h := gDiagram_any C S nc cc ns sc lp V s W hC hS (by omega) (by have := hC.1; omega) (by omega)
        refine h.mono fun e w' hp => ?_
        unfold DiaPost at hp
        rw [if_neg (by rw [K.out.gv]; simp), if_neg (by rw [K.out.gen]; simp)] at hp
        obtain ⟨P, pc, R, e1, e2, e3, e4⟩ := hp
        rw [K.out.mate] at e3
        rw [← K.out.nm4] at e1 e3
        exact ⟨P, pc, R, e1, e2, e3, e4⟩
      have CG : ∀ (C S : Option Addr) (nc cc sc : Nat) (W : World), RVV W C nc V → RI W S ns s → Hid (Calls Tryz.prog 20 #[dval C nc cc S ns sc lp] W fun e w' => e = .returned (.tuple #[.int .i64 0, .int .i64 0]) ∧ Below W.heap.size W w') := fun C S nc cc sc W hC hS => by
        have h := gGenus_any C S nc cc ns sc lp V s W hC hS (by omega) (by have := hC.1; omega) (by omega)
        rw [K.out.gv, K.out.gen] at h
        exact h
      have CGV : ∀ (C S : Option Addr) (nc cc sc : Nat) (W : World), RVV W C nc V → RI W S ns s → Hid (Calls Tryz.prog 21 #[dval C nc cc S ns sc lp] W fun e w' => e = .returned (.bool true) ∧ Below W.heap.size W w') := fun C S nc cc sc W hC hS => by
        have h := gvalid_any C S nc cc ns sc lp V s W hC hS (by omega) (by have := hC.1; omega) (by omega)
        rw [K.out.gv] at h
        exact h
      have CE : ∀ (P R : Option Addr) (pc : Nat) (W : World), RI W P ns s → RI W R nm m → Below w.heap.size w W → Hid (Calls Tryz.prog 22 #[dval P ns pc R nm nm lp, dval A ns cs B nm cm lp] W fun e w' => e = .returned (.bool true) ∧ Below W.heap.size W w') := fun P R pc W h1 h2 hb => by
        have h := equal_any P R A B ns pc nm nm ns cs nm cm lp lp s m s m W h1 h2 (H.out.hs.keep hb) (H.out.hm.keep hb) (by omega) (by omega) (by omega) (by omega)
        rw [eqD_same] at h
        exact h
      clear hs hm hmI
      go_enter Tryz.func4, Tryz.ntmps4
      go_upto_region 6 with (first
        | (go_at_call 12; ((with_reducible refine (HTW _ hb0).out.mono ?_); rintro e w1 ⟨rfl, hb1⟩; have hb01 := below_step hb0 hb1; have e0 := (hb1.cell (p := ⟨w.heap.size, 0, none⟩) dlt).trans d0; have e1 := (hb1.cell (p := ⟨w.heap.size, 1, none⟩) dlt).trans d1; have e2 := (hb1.cell (p := ⟨w.heap.size, 2, none⟩) dlt).trans d2; have elt := Nat.lt_of_lt_of_le dlt hb1.size))
        | (go_at_call 18; ((with_reducible refine (CV _ hb01).out.mono ?_); rintro e w2 ⟨rfl, hb2⟩; have hb02 := below_step hb01 hb2; have f0 := (hb2.cell (p := ⟨w.heap.size, 0, none⟩) elt).trans e0; have f1 := (hb2.cell (p := ⟨w.heap.size, 1, none⟩) elt).trans e1; have f2 := (hb2.cell (p := ⟨w.heap.size, 2, none⟩) elt).trans e2; have flt := Nat.lt_of_lt_of_le elt hb2.size))
        | (go_at_call 13; ((with_reducible refine (CO _ hb02).out.mono ?_); rintro e w3 ⟨C, nc, cc, S, sc, rfl, hC, hS, hb3⟩; have hb3' := below_step hb3 (below_alloc w3 (.cells #[.slice C nc cc, .slice S ns sc, .int .i64 lp] 28)); have g0 := (hb3'.cell (p := ⟨w.heap.size, 0, none⟩) flt).trans f0; have g1 := (hb3'.cell (p := ⟨w.heap.size, 1, none⟩) flt).trans f1; have g2 := (hb3'.cell (p := ⟨w.heap.size, 2, none⟩) flt).trans f2; have glt := Nat.lt_of_lt_of_le flt hb3'.size; have hb03 := below_step hb02 hb3'; have HX := Lib.hid (DB.newT w3 C nc cc S ns sc lp 28); have hC3 := hC.keep (below_alloc w3 (.cells #[.slice C nc cc, .slice S ns sc, .int .i64 lp] 28)); have hS3 := hS.keep (below_alloc w3 (.cells #[.slice C nc cc, .slice S ns sc, .int .i64 lp] 28))))
        | (go_at_call 19; ((with_reducible refine (CD C S nc cc sc _ hC3 hS3).out.mono ?_); rintro e w4 ⟨P, pc, R, rfl, hP, hR, hb4⟩; have hb4' := below_step hb4 (below_alloc w4 (.cells #[.slice P ns pc, .slice R nm nm, .int .i64 lp] 24)); have i0 := (hb4'.cell (p := ⟨w.heap.size, 0, none⟩) glt).trans g0; have i1 := (hb4'.cell (p := ⟨w.heap.size, 1, none⟩) glt).trans g1; have i2 := (hb4'.cell (p := ⟨w.heap.size, 2, none⟩) glt).trans g2; have ilt := Nat.lt_of_lt_of_le glt hb4'.size; have hb04 := below_step hb03 hb4'; obtain ⟨x0, x1, x2, xlt⟩ := HX.out.keep hb4'; have HY := Lib.hid (DB.newT w4 P ns pc R nm nm lp 24); have hC4 := hC3.keep hb4'; have hS4 := hS3.keep hb4'; have hP4 := hP.keep (below_alloc w4 (.cells #[.slice P ns pc, .slice R nm nm, .int .i64 lp] 24)); have hR4 := hR.keep (below_alloc w4 (.cells #[.slice P ns pc, .slice R nm nm, .int .i64 lp] 24))))
        | (go_at_call 20; ((with_reducible refine (CG C S nc cc sc _ hC4 hS4).out.mono ?_); rintro e w5 ⟨rfl, hb5⟩; have j0 := (hb5.cell (p := ⟨w.heap.size, 0, none⟩) ilt).trans i0; have j1 := (hb5.cell (p := ⟨w.heap.size, 1, none⟩) ilt).trans i1; have j2 := (hb5.cell (p := ⟨w.heap.size, 2, none⟩) ilt).trans i2; have jlt := Nat.lt_of_lt_of_le ilt hb5.size; have hb05 := below_step hb04 hb5; have y0 := (hb5.cell (p := ⟨w3.heap.size, 0, none⟩) xlt).trans x0; have y1 := (hb5.cell (p := ⟨w3.heap.size, 1, none⟩) xlt).trans x1; have y2 := (hb5.cell (p := ⟨w3.heap.size, 2, none⟩) xlt).trans x2; have ylt := Nat.lt_of_lt_of_le xlt hb5.size; obtain ⟨z0, z1, z2, zlt⟩ := HY.out.keep hb5; have hC5 := hC4.keep hb5; have hS5 := hS4.keep hb5; have hP5 := hP4.keep hb5; have hR5 := hR4.keep hb5)))
      have hnc : V.length = nc := hC.1
      rw [hnc] at CC
      have hncl : nc ≤ 256 := by omega
      have hw1 : IntKind.i64.wrap ((nc : Int) + lp) = (nc : Int) + lp := IntWalk.i64_in _ (by omega)
      have hbD : Below w5.heap.size w5 w5.drew := (Below.refl _ _).drew
      have HC := Lib.hid hC5
      have HS := Lib.hid hS5
      have HP := Lib.hid hP5
      have HR := Lib.hid hR5
      obtain ⟨gX, hgX⟩ : ∃ gX, w3.heap.size = gX := ⟨_, rfl⟩
      obtain ⟨gY, hgY⟩ : ∃ gY, w4.heap.size = gY := ⟨_, rfl⟩
      rw [hgX] at y0 y1 y2 ylt ⊢
      rw [hgY] at z0 z1 z2 zlt ⊢
      clear hgX hgY HX HY hC hS hC3 hS3 hC4 hS4 hP hR hP4 hR4 hC5 hS5 hP5 hR5 hb1 hb2 hb3 hb3' hb4 hb4' hb5 d0 d1 d2 e0 e1 e2 f0 f1 f2 g0 g1 g2 i0 i1 i2 x0 x1 x2 hb01 hb02 hb03 hb04 hb0 xlt ilt glt flt elt dlt k1 k2 k3 k4 hnc
      go_region_held3 (fun w' => (w'.cell? ⟨w.heap.size, 0, none⟩ = some (.slice A ns cs) ∧ w'.cell? ⟨w.heap.size, 1, none⟩ = some (.slice B nm cm) ∧ w'.cell? ⟨w.heap.size, 2, none⟩ = some (.int .i64 lp)) ∧ (w'.cell? ⟨gX, 0, none⟩ = some (.slice C nc cc) ∧ w'.cell? ⟨gX, 1, none⟩ = some (.slice S ns sc) ∧ w'.cell? ⟨gX, 2, none⟩ = some (.int .i64 lp)) ∧ (w'.cell? ⟨gY, 0, none⟩ = some (.slice P ns pc) ∧ w'.cell? ⟨gY, 1, none⟩ = some (.slice R nm nm) ∧ w'.cell? ⟨gY, 2, none⟩ = some (.int .i64 lp)))
        (first
          | go_keep
          | exact ⟨⟨(zz8.cell (p := ⟨w.heap.size, 0, none⟩) jlt).trans j0, (zz8.cell (p := ⟨w.heap.size, 1, none⟩) jlt).trans j1, (zz8.cell (p := ⟨w.heap.size, 2, none⟩) jlt).trans j2⟩, ⟨(zz8.cell (p := ⟨gX, 0, none⟩) ylt).trans y0, (zz8.cell (p := ⟨gX, 1, none⟩) ylt).trans y1, (zz8.cell (p := ⟨gX, 2, none⟩) ylt).trans y2⟩, ⟨(zz8.cell (p := ⟨gY, 0, none⟩) zlt).trans z0, (zz8.cell (p := ⟨gY, 1, none⟩) zlt).trans z1, (zz8.cell (p := ⟨gY, 2, none⟩) zlt).trans z2⟩⟩
          | exact ⟨⟨(zz7.cell (p := ⟨w.heap.size, 0, none⟩) jlt).trans j0, (zz7.cell (p := ⟨w.heap.size, 1, none⟩) jlt).trans j1, (zz7.cell (p := ⟨w.heap.size, 2, none⟩) jlt).trans j2⟩, ⟨(zz7.cell (p := ⟨gX, 0, none⟩) ylt).trans y0, (zz7.cell (p := ⟨gX, 1, none⟩) ylt).trans y1, (zz7.cell (p := ⟨gX, 2, none⟩) ylt).trans y2⟩, ⟨(zz7.cell (p := ⟨gY, 0, none⟩) zlt).trans z0, (zz7.cell (p := ⟨gY, 1, none⟩) zlt).trans z1, (zz7.cell (p := ⟨gY, 2, none⟩) zlt).trans z2⟩⟩
          | exact ⟨⟨(zz6.cell (p := ⟨w.heap.size, 0, none⟩) jlt).trans j0, (zz6.cell (p := ⟨w.heap.size, 1, none⟩) jlt).trans j1, (zz6.cell (p := ⟨w.heap.size, 2, none⟩) jlt).trans j2⟩, ⟨(zz6.cell (p := ⟨gX, 0, none⟩) ylt).trans y0, (zz6.cell (p := ⟨gX, 1, none⟩) ylt).trans y1, (zz6.cell (p := ⟨gX, 2, none⟩) ylt).trans y2⟩, ⟨(zz6.cell (p := ⟨gY, 0, none⟩) zlt).trans z0, (zz6.cell (p := ⟨gY, 1, none⟩) zlt).trans z1, (zz6.cell (p := ⟨gY, 2, none⟩) zlt).trans z2⟩⟩)
        (first
          | (go_at_call 23; ((with_reducible refine (CC _ (below_step hb05 zz7)).out.mono ?_); rintro e w8 ⟨rfl, hb8⟩; have zz8 := below_step zz7 hb8))
          | (go_at_call 22; ((with_reducible refine (CE P R pc _ (HP.out.keep zz6) (HR.out.keep zz6) (below_step hb05 zz6)).out.mono ?_); rintro e w7 ⟨rfl, hb7⟩; have zz7 := below_step zz6 hb7))
          | (go_at_call 21; ((with_reducible refine (CGV C S nc cc sc _ (HC.out.keep hbD) (HS.out.keep hbD)).out.mono ?_); rintro e w6 ⟨rfl, hb6⟩; have zz6 := below_step hbD hb6)))
      go_wp2
      go_ret
      exact ⟨rfl, below_step hb05 zz8⟩
  · have hs1 : 14 < (ns : Int) := by omega
    clear hs hm hmI h14
    go_enter Tryz.func4, Tryz.ntmps4
    go_wp2_with (first
      | (go_at_call 12; ((with_reducible refine (HTW _ hb01).out.mono ?_); rintro e w2 ⟨rfl, hb2⟩))
      | (go_at_call 12; ((with_reducible refine (HTW _ hb0).out.mono ?_); rintro e w1 ⟨rfl, hb1⟩; have hb01 := below_step hb0 hb1; have e0 := (hb1.cell (p := ⟨w.heap.size, 0, none⟩) dlt).trans d0)))
    go_ret
    exact ⟨rfl, below_step hb01 hb2⟩

end Go.Proofs.YtdacjnmfmhkpiaaGreatDoor

/- Walk: the law's few. -/
namespace Go.Proofs.YtdacjnmfmhkpiaaGreatDoor
open Go.RowKit

def fewB (vss : List (List Vis)) (ns nc : Nat) : Bool := decide (ns ≤ 14) && decide (nc ≤ 28) && decide (vss.flatten.length ≤ 42)

set_option maxHeartbeats 1600000 in
set_option maxRecDepth 100000 in
theorem few_any (C S : Option Addr) (nc cc ns cs : Nat) (lp : Int) (vss : List (List Vis)) (w : World) (hC : RVV w C nc vss) (hns : ns ≤ 9223372036854775807) (hnc : nc ≤ 9223372036854775807) (hfl : vss.flatten.length ≤ 9223372036854775807) :
    Calls Tryz.prog 24 #[dval C nc cc S ns cs lp] w fun e w' => e = .returned (.bool (fewB vss ns nc)) ∧ Below w.heap.size w w' := by
  have hd := DB.newT w C nc cc S ns cs lp 28
  have hb0 := below_alloc w (.cells #[.slice C nc cc, .slice S ns cs, .int .i64 lp] 28)
  have HC := Lib.hid hC
  have HCL := Lib.hid hC.1
  have HFL := Lib.hid hfl
  clear hC hfl
  go_enter Tryz.func24, Tryz.ntmps24
  go_upto_region 2 with fail
  generalize w.alloc (.cells #[.slice C nc cc, .slice S ns cs, .int .i64 lp] 28) = wA at *
  obtain ⟨d0, d1, d2, dlt⟩ := hd
  go_wp2
  go_loop [3, 5, 9] (fun s _ i => ∃ k : Nat, k ≤ nc ∧ i = .int .i64 k ∧ s = .int .i64 ((vss.take k).flatten.length : Nat)) (fun _ _ i => nc - (intOf i).toNat)
  case atStart => exact ⟨0, by omega, rfl, rfl⟩
  case round =>
    obtain ⟨k, hk, rfl, rfl⟩ := hrel
    have hk0 : (0 : Int) ≤ (k : Int) := Int.natCast_nonneg _
    by_cases hlt : k < nc
    · obtain ⟨bC, oC, hCe, hbC, hcc⟩ := HC.out.2 (by omega)
      subst hCe
      obtain ⟨A1, n1, c1, hcel0, hrv⟩ := hcc k hlt
      have hcel := (hb0.cell (p := ⟨bC, oC + k, none⟩) hbC).trans hcel0
      have hk1 : (k : Int) < (nc : Int) := by omega
      have hkl : k < vss.length := by rw [HCL.out]; exact hlt
      have hfs := flat_take_succ hkl
      have hln := hrv.1
      have hlen : (vss.take (k + 1)).flatten.length = (vss.take k).flatten.length + n1 := by rw [hfs, List.length_append, hln]
      have hle : (vss.take (k + 1)).flatten.length ≤ 9223372036854775807 := by
        have e3 : vss.flatten = (vss.take (k + 1)).flatten ++ (vss.drop (k + 1)).flatten := by rw [← List.flatten_append, List.take_append_drop]
        have := HFL.out
        rw [e3, List.length_append] at this
        omega
      rw [hlen] at hle
      have HLEN := Lib.hid hlen
      generalize (vss.take k).flatten.length = T at *
      have hT0 : (0 : Int) ≤ (T : Int) := Int.natCast_nonneg _
      have hn0 : (0 : Int) ≤ (n1 : Int) := Int.natCast_nonneg _
      have hT1 : (T : Int) + (n1 : Int) ≤ 9223372036854775807 := by omega
      clear hcc hrv hfs hln hlen hcel0
      go_wp2
      go_round
      case rel => exact ⟨k + 1, by omega, by go_num, by rw [HLEN.out]; go_num⟩
      case measure => simp [intOf]; omega
    · obtain rfl : k = nc := by omega
      have htk : vss.take k = vss := by rw [← HCL.out, List.take_length]
      rw [htk]
      have hF : fewB vss ns k = (decide (ns ≤ 14) && decide (k ≤ 28) && decide (vss.flatten.length ≤ 42)) := rfl
      have hfl := HFL.out
      generalize vss.flatten.length = T at *
      have HF := Lib.hid hF
      have hT0 : (0 : Int) ≤ (T : Int) := Int.natCast_nonneg _
      clear hF htk hlt hk
      by_cases h1 : ns ≤ 14
      · have h1' : (ns : Int) ≤ 14 := by omega
        by_cases h2 : k ≤ 28
        · have h2' : (k : Int) ≤ 28 := by omega
          by_cases h3 : T ≤ 42
          · have h3' : (T : Int) ≤ 42 := by omega
            go_wp2
            go_ret
            exact ⟨ret_bool (by rw [HF.out]; simp [h1, h2, h3]), hb0⟩
          · have h3' : 42 < (T : Int) := by omega
            go_wp2
            go_ret
            exact ⟨ret_bool (by rw [HF.out]; simp [h1, h2, h3] <;> omega), hb0⟩
        · have h2' : 28 < (k : Int) := by omega
          go_wp2
          go_ret
          exact ⟨ret_bool (by rw [HF.out]; simp [h1, h2]), hb0⟩
      · have h1' : 14 < (ns : Int) := by omega
        go_wp2
        go_ret
        exact ⟨ret_bool (by rw [HF.out]; simp [h1]), hb0⟩

end Go.Proofs.YtdacjnmfmhkpiaaGreatDoor
