/- Walk: the reference's Equal. -/
import Derived.Test.YtkfjledhnakfoaaA04
namespace Go.Proofs.Ytkfjledhnakfoaa
open Go.RowKit

def eqD (s m : List Int) (lp : Int) (s' m' : List Int) (lp' : Int) : Bool := decide (s = s') && decide (m = m') && decide (lp = lp')

set_option maxHeartbeats 1600000 in
theorem requal_any (A B A' B' : Option Addr) (ns cs nm cm ns' cs' nm' cm' : Nat) (lp lp' : Int) (s m s' m' : List Int) (w : World) (hs : RI w A ns s) (hm : RI w B nm m) (hs' : RI w A' ns' s') (hm' : RI w B' nm' m')
    (h1 : ns ≤ 1000000000000000) (h2 : nm ≤ 1000000000000000) (h3 : ns' ≤ 1000000000000000) (h4 : nm' ≤ 1000000000000000) :
    Calls Try.prog 16 #[dval A ns cs B nm cm lp, dval A' ns' cs' B' nm' cm' lp'] w fun e w' => e = .returned (.bool (eqD s m lp s' m' lp')) ∧ Below w.heap.size w w' := by
  have hba := below_alloc w (dbox A ns cs B nm cm lp)
  have hbb := below_alloc (w.alloc (dbox A ns cs B nm cm lp)) (dbox A' ns' cs' B' nm' cm' lp')
  have hb0 := below_step hba hbb
  have hd := (DB.new w A ns cs B nm cm lp).keep hbb
  have hd' := DB.new (w.alloc (dbox A ns cs B nm cm lp)) A' ns' cs' B' nm' cm' lp'
  have hsz : (w.alloc (dbox A ns cs B nm cm lp)).heap.size = w.heap.size + 1 := by simp
  rw [hsz] at hd'
  obtain ⟨d0, d1, d2, dlt⟩ := hd
  obtain ⟨e0, e1, e2, elt⟩ := hd'
  have C1 : ∀ W : World, Below w.heap.size w W → Hid (Calls Try.prog 60 #[.slice A ns cs, .slice A' ns' cs'] W fun e w' => e = .returned (.bool (decide (s = s'))) ∧ Below W.heap.size W w') := fun W hb => ints_r (decide (s = s')) A A' ns cs ns' cs' s s' W (hs.keep hb) (hs'.keep hb) h1 h3 rfl
  have C2 : ∀ W : World, Below w.heap.size w W → Hid (Calls Try.prog 60 #[.slice B nm cm, .slice B' nm' cm'] W fun e w' => e = .returned (.bool (decide (m = m'))) ∧ Below W.heap.size W w') := fun W hb => ints_r (decide (m = m')) B B' nm cm nm' cm' m m' W (hm.keep hb) (hm'.keep hb) h2 h4 rfl
  clear hba hbb hs hm hs' hm' h1 h2 h3 h4 hsz
  unfold eqD
  by_cases hss : s = s'
  · have es : decide (s = s') = true := by simp [hss]
    rw [es] at C1 ⊢
    by_cases hmm : m = m'
    · have em : decide (m = m') = true := by simp [hmm]
      rw [em] at C2 ⊢
      by_cases hl : lp = lp'
      · have el : decide (lp = lp') = true := by simp [hl]
        rw [el]
        subst hl
        clear hss hmm es em el
        go_enter Try.func16, Try.ntmps16
        go_wp2_with (first
          | (go_at_call 60; ((with_reducible refine (C1 _ hb0).out.mono ?_); rintro e w1 ⟨rfl, hb1⟩; have f0 := (hb1.cell (p := ⟨w.heap.size, 1, none⟩) dlt).trans d1; have f1 := (hb1.cell (p := ⟨w.heap.size, 2, none⟩) dlt).trans d2; have g0 := (hb1.cell (p := ⟨w.heap.size + 1, 1, none⟩) elt).trans e1; have g1 := (hb1.cell (p := ⟨w.heap.size + 1, 2, none⟩) elt).trans e2; have dlt1 := Nat.lt_of_lt_of_le dlt hb1.size; have elt1 := Nat.lt_of_lt_of_le elt hb1.size))
          | (go_at_call 60; ((with_reducible refine (C2 _ (below_step hb0 hb1)).out.mono ?_); rintro e w2 ⟨rfl, hb2⟩; have k0 := (hb2.cell (p := ⟨w.heap.size, 2, none⟩) dlt1).trans f1; have k1 := (hb2.cell (p := ⟨w.heap.size + 1, 2, none⟩) elt1).trans g1)))
        go_ret
        exact ⟨rfl, below_step (below_step hb0 hb1) hb2⟩
      · have el : decide (lp = lp') = false := by simp [hl]
        have el' : (lp == lp') = false := by simp only [beq_eq_false_iff_ne, ne_eq]; exact hl
        rw [el]
        clear hss hmm es em el
        go_enter Try.func16, Try.ntmps16
        go_wp2_with (first
          | (go_at_call 60; ((with_reducible refine (C1 _ hb0).out.mono ?_); rintro e w1 ⟨rfl, hb1⟩; have f0 := (hb1.cell (p := ⟨w.heap.size, 1, none⟩) dlt).trans d1; have f1 := (hb1.cell (p := ⟨w.heap.size, 2, none⟩) dlt).trans d2; have g0 := (hb1.cell (p := ⟨w.heap.size + 1, 1, none⟩) elt).trans e1; have g1 := (hb1.cell (p := ⟨w.heap.size + 1, 2, none⟩) elt).trans e2; have dlt1 := Nat.lt_of_lt_of_le dlt hb1.size; have elt1 := Nat.lt_of_lt_of_le elt hb1.size))
          | (go_at_call 60; ((with_reducible refine (C2 _ (below_step hb0 hb1)).out.mono ?_); rintro e w2 ⟨rfl, hb2⟩; have k0 := (hb2.cell (p := ⟨w.heap.size, 2, none⟩) dlt1).trans f1; have k1 := (hb2.cell (p := ⟨w.heap.size + 1, 2, none⟩) elt1).trans g1)))
        go_ret
        exact ⟨rfl, below_step (below_step hb0 hb1) hb2⟩
    · have em : decide (m = m') = false := by simp [hmm]
      rw [em] at C2 ⊢
      clear hss hmm es em
      go_enter Try.func16, Try.ntmps16
      go_wp2_with (first
        | (go_at_call 60; ((with_reducible refine (C1 _ hb0).out.mono ?_); rintro e w1 ⟨rfl, hb1⟩; have f0 := (hb1.cell (p := ⟨w.heap.size, 1, none⟩) dlt).trans d1; have f1 := (hb1.cell (p := ⟨w.heap.size, 2, none⟩) dlt).trans d2; have g0 := (hb1.cell (p := ⟨w.heap.size + 1, 1, none⟩) elt).trans e1; have g1 := (hb1.cell (p := ⟨w.heap.size + 1, 2, none⟩) elt).trans e2; have dlt1 := Nat.lt_of_lt_of_le dlt hb1.size; have elt1 := Nat.lt_of_lt_of_le elt hb1.size))
        | (go_at_call 60; ((with_reducible refine (C2 _ (below_step hb0 hb1)).out.mono ?_); rintro e w2 ⟨rfl, hb2⟩; have k0 := (hb2.cell (p := ⟨w.heap.size, 2, none⟩) dlt1).trans f1; have k1 := (hb2.cell (p := ⟨w.heap.size + 1, 2, none⟩) elt1).trans g1)))
      go_ret
      exact ⟨rfl, below_step (below_step hb0 hb1) hb2⟩
  · have es : decide (s = s') = false := by simp [hss]
    rw [es] at C1 ⊢
    clear hss es
    go_enter Try.func16, Try.ntmps16
    go_wp2_with (first
      | (go_at_call 60; ((with_reducible refine (C1 _ hb0).out.mono ?_); rintro e w1 ⟨rfl, hb1⟩; have f0 := (hb1.cell (p := ⟨w.heap.size, 1, none⟩) dlt).trans d1; have f1 := (hb1.cell (p := ⟨w.heap.size, 2, none⟩) dlt).trans d2; have g0 := (hb1.cell (p := ⟨w.heap.size + 1, 1, none⟩) elt).trans e1; have g1 := (hb1.cell (p := ⟨w.heap.size + 1, 2, none⟩) elt).trans e2; have dlt1 := Nat.lt_of_lt_of_le dlt hb1.size; have elt1 := Nat.lt_of_lt_of_le elt hb1.size))
      | (go_at_call 60; ((with_reducible refine (C2 _ (below_step hb0 hb1)).out.mono ?_); rintro e w2 ⟨rfl, hb2⟩; have k0 := (hb2.cell (p := ⟨w.heap.size, 2, none⟩) dlt1).trans f1; have k1 := (hb2.cell (p := ⟨w.heap.size + 1, 2, none⟩) elt1).trans g1)))
    go_ret
    exact ⟨rfl, below_step hb0 hb1⟩

end Go.Proofs.Ytkfjledhnakfoaa
