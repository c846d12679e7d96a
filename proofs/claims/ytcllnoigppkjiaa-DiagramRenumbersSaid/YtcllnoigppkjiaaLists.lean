/- Walk: the reference's Lists. -/
import Derived.Test.YtcllnoigppkjiaaInts
namespace Go.Proofs.Ytcllnoigppkjiaa
open Go.RowKit

set_option maxHeartbeats 1600000 in
theorem lists_r (r : Bool) (A B : Option Addr) (n c m d : Nat) (xs ys : List (List Int)) (w : World) (hx : RO w A n xs) (hy : RO w B m ys) (hn : n ≤ 1000000000000000) (hm : m ≤ 1000000000000000)
    (hsx : ∀ j, j < n → (xs.getD j []).length ≤ 1000000000000000) (hsy : ∀ j, j < m → (ys.getD j []).length ≤ 1000000000000000) (hr : r = decide (xs = ys)) :
    Calls Try.prog 31 #[.slice A n c, .slice B m d] w fun e w' => e = .returned (.bool r) ∧ Below w.heap.size w w' := by
  have hlx := hx.1
  have hly := hy.1
  by_cases hnm : n = m
  · subst hnm
    have HLX := Lib.hid hlx
    have HLY := Lib.hid hly
    have HR := Lib.hid hr
    have HE : Hid (∀ j, j < 0 → xs.getD j [] = ys.getD j []) := fun j hj => absurd hj (by omega)
    clear hlx hly hr
    go_enter Try.func31, Try.ntmps31
    go_wp2
    go_loopw [5] (fun i wr => ∃ k : Nat, k ≤ n ∧ i = .int .i64 k ∧ Below w.heap.size w wr ∧ Hid (∀ j, j < k → xs.getD j [] = ys.getD j [])) (fun i _ => n - (intOf i).toNat)
    case atStart => exact ⟨0, by omega, rfl, Below.refl _ _, HE⟩
    case round =>
      obtain ⟨k, hk, rfl, hbr, hall⟩ := hrel
      by_cases hlt : k < n
      · obtain ⟨b, off, rfl, hb, hc⟩ := (hx.keep hbr).2 (by omega)
        obtain ⟨b', off', rfl, hb', hc'⟩ := (hy.keep hbr).2 (by omega)
        obtain ⟨A1, n1, c1, h1, hx1⟩ := hc k hlt
        obtain ⟨A2, n2, c2, h2, hy2⟩ := hc' k hlt
        have hk0 : (0 : Int) ≤ (k : Int) := Int.natCast_nonneg _
        have hk1 : (k : Int) < (n : Int) := by omega
        have hl1 : n1 ≤ 1000000000000000 := by rw [← hx1.1]; exact hsx k hlt
        have hl2 : n2 ≤ 1000000000000000 := by rw [← hy2.1]; exact hsy k hlt
        by_cases he : xs.getD k [] = ys.getD k []
        · have hall' : Hid (∀ j, j < k + 1 → xs.getD j [] = ys.getD j []) := fun j hj => by
            by_cases e : j = k
            · subst e; exact he
            · exact hall.out j (by omega)
          have C := Lib.hid (ints_r true A1 A2 n1 c1 n2 c2 _ _ wr.drew hx1 hy2 hl1 hl2 (by simp only [he]; simp))
          clear hx hy hc hc' he hx1 hy2 hsx hsy
          go_wp2
          go_region_held3 (fun w' => w'.cell? ⟨b, off + k, none⟩ = some (.slice A1 n1 c1) ∧ w'.cell? ⟨b', off' + k, none⟩ = some (.slice A2 n2 c2))
            (first | go_keep | exact ⟨(hb2.cell (p := ⟨b, off + k, none⟩) hb).trans h1, (hb2.cell (p := ⟨b', off' + k, none⟩) hb').trans h2⟩)
            (first | (go_at_call 29; ((with_reducible refine C.out.mono ?_); rintro e w2 ⟨rfl, hb2⟩)))
          go_wp2
          go_roundw
          case rel => exact ⟨k + 1, by omega, by go_num, below_step hbr (below_drew_left hb2), hall'⟩
          case measure => simp [intOf]; omega
        · have hrf : r = false := by
            rw [HR.out, decide_eq_false_iff_not]
            intro e; exact he (by rw [e])
          subst hrf
          have C := Lib.hid (ints_r false A1 A2 n1 c1 n2 c2 _ _ wr.drew hx1 hy2 hl1 hl2 (by simp only [he]; simp))
          clear hx hy hc hc' he HR hx1 hy2 hsx hsy
          go_wp2
          go_region_held3 (fun w' => w'.cell? ⟨b, off + k, none⟩ = some (.slice A1 n1 c1) ∧ w'.cell? ⟨b', off' + k, none⟩ = some (.slice A2 n2 c2))
            (first | go_keep | exact ⟨(hb2.cell (p := ⟨b, off + k, none⟩) hb).trans h1, (hb2.cell (p := ⟨b', off' + k, none⟩) hb').trans h2⟩)
            (first | (go_at_call 29; ((with_reducible refine C.out.mono ?_); rintro e w2 ⟨rfl, hb2⟩)))
          go_wp2
          go_ret
          exact ⟨rfl, below_step hbr (below_drew_left hb2)⟩
      · obtain rfl : k = n := by omega
        have hrt : r = true := by
          rw [HR.out, decide_eq_true_eq]
          exact eq_of_getDL (by rw [HLX.out, HLY.out]) (fun j hj => hall.out j (by rw [← HLX.out]; exact hj))
        subst hrt
        clear hx hy HR hsx hsy
        go_wp2
        go_ret
        exact ⟨rfl, hbr⟩
  · have hrf : r = false := by
      rw [hr, decide_eq_false_iff_not]
      intro e; rw [e] at hlx; omega
    subst hrf
    have hne : ((n : Int) != (m : Int)) = true := by simp only [bne_iff_ne, ne_eq]; omega
    clear hx hy hlx hly hr hnm hsx hsy
    go_enter Try.func31, Try.ntmps31
    go_wp2
    go_ret
    exact ⟨rfl, Below.refl _ _⟩

end Go.Proofs.Ytcllnoigppkjiaa
