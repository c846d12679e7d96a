/- Walk: inverse. -/
import Derived.Test.YtcllnoigppkjiaaRepeat
import Derived.Test.YtcllnoigppkjiaaRenPlain
namespace Go.Proofs.Ytcllnoigppkjiaa
open Go.RowKit

def InvPost (o : List Int) (N : Nat) (w : World) (e : Ending) (w' : World) : Prop :=
  Below w.heap.size w w' ∧ ((IsOrd o N ∧ ∃ g, w.heap.size ≤ g ∧ e = .returned (.tuple #[.slice (some ⟨g, 0, none⟩) N N, .bool true]) ∧ Arr w' g 3 N (zv (plcK o N))) ∨ (¬ IsOrd o N ∧ e = .returned (.tuple #[.slice none 0 0, .bool false])))

set_option maxHeartbeats 1600000 in
set_option maxRecDepth 100000 in
theorem inverse_any (A : Option Addr) (n c N : Nat) (o : List Int) (w : World) (ho : RI w A n o) (hn : n ≤ 1000) (hN : N ≤ 1000) (hoI : ∀ j, j < n → -9223372036854775808 ≤ o.getD j 0 ∧ o.getD j 0 ≤ 9223372036854775807) :
    Calls Try.prog 62 #[.slice A n c, .int .i64 (N : Nat)] w (InvPost o N w) := by
  by_cases hnN : n = N
  · subst hnN
    have hol := ho.1
    have hb0 := below_alloc w (.cells #[.int .i64 (-1)] 3)
    have CR := Lib.hid (repeat_any w.heap.size n (-1) (w.alloc (.cells #[.int .i64 (-1)] 3)) (by simp) (by rw [World.cell?_alloc_at _ _ _ _ rfl]; rfl) hn)
    have HOL := Lib.hid hol
    have HOI := Lib.hid hoI
    clear hol hoI
    go_enter Try.func62, Try.ntmps62
    go_wp2_with (go_at_call 67; ((with_reducible refine CR.out.mono ?_); rintro e w1 ⟨rfl, hA0, hb1⟩))
    have hb01 := below_step hb0 hb1
    have hg : w.heap.size ≤ (w.alloc (.cells #[.int .i64 (-1)] 3)).heap.size := by simp
    have hA1 : Arr w1 (w.alloc (.cells #[.int .i64 (-1)] 3)).heap.size 3 n (zv (plcK o 0)) := hA0
    have esz : (w.alloc (.cells #[.int .i64 (-1)] 3)).heap.size = w.heap.size + 1 := by simp
    rw [esz] at hA1
    have hg2 : w.heap.size ≤ w.heap.size + 1 := by omega
    try rw [esz]
    clear hA0 hb1 hb0 hg esz
    obtain ⟨g, hgx⟩ : ∃ g, w.heap.size + 1 = g := ⟨_, rfl⟩
    rw [hgx] at hA1 hg2 ⊢
    clear hgx
    go_loopw [7, 8, 18] (fun _ _ i wr => ∃ k : Nat, k ≤ n ∧ i = .int .i64 k ∧ Below w.heap.size w wr ∧ OrdK o n k ∧ Arr wr g 3 n (zv (plcK o k))) (fun _ _ i _ => n - (intOf i).toNat)
    case atStart => exact ⟨0, by omega, rfl, hb01, OrdK.zero _ _, hA1⟩
    case round =>
      obtain ⟨k, hk, rfl, hbr, hok, hA⟩ := hrel
      have hk0 : (0 : Int) ≤ (k : Int) := Int.natCast_nonneg _
      by_cases hlt : k < n
      · obtain ⟨b, off, rfl, hb, hc⟩ := (ho.keep hbr).2 (by omega)
        have hcell := hc k hlt
        obtain ⟨hlo, hhi⟩ := HOI.out k hlt
        have hk1 : (k : Int) < (n : Int) := by omega
        have hno : ¬ OrdK o n (k + 1) → ¬ IsOrd o n := fun h1 h2 => h1 ⟨fun i hi => h2.2.rg i (by omega), fun i j hij hj => h2.2.ne i j hij (by omega)⟩
        have HNO := Lib.hid hno
        have HOK := Lib.hid hok
        by_cases hneg : o.getD k 0 < 0
        · have hx : ¬ IsOrd o n := HNO.out fun h => by have := (h.rg k (by omega)).1; omega
          have HX := Lib.hid hx
          clear hc ho hno hok hA1 hA hx
          generalize o.getD k 0 = y at *
          go_wp2
          go_ret2
          exact ⟨hbr, .inr ⟨HX.out, rfl⟩⟩
        · by_cases hbig : (n : Int) ≤ o.getD k 0
          · have hx : ¬ IsOrd o n := HNO.out fun h => by have := (h.rg k (by omega)).2; omega
            have HX := Lib.hid hx
            have hneg' : 0 ≤ o.getD k 0 := by omega
            clear hc ho hno hok hA1 hA hx
            generalize o.getD k 0 = y at *
            go_wp2
            go_ret2
            exact ⟨hbr, .inr ⟨HX.out, rfl⟩⟩
          · obtain ⟨x, hx⟩ : ∃ x : Nat, o.getD k 0 = x := Int.eq_ofNat_of_zero_le (by omega)
            have hox : ordN o k = x := by unfold ordN; rw [hx]; simp
            have hxn : x < n := by omega
            rw [hx] at hcell
            have hp : wr.cell? ⟨g, x, none⟩ = some (.int .i64 (plcK o k x)) := hA.cell x hxn
            have hfz := hA.frozen x
            have hx0 : (0 : Int) ≤ (x : Int) := Int.natCast_nonneg _
            have hx2 : (x : Int) < (n : Int) := by omega
            rcases plcK_cases o k x with ⟨h1, h2⟩ | ⟨i, h1, h2, h3⟩
            · have hok' : OrdK o n (k + 1) := hok.succ (by omega) (by omega) fun i hi e => h2 i hi (by unfold ordN; rw [e, hx]; simp)
              have HOK' := Lib.hid hok'
              rw [h1] at hp
              have hst : Arr (wr.setCell ⟨g, x, none⟩ (.int .i64 (k : Int))) g 3 n (zv (plcK o (k + 1))) := (hA.setz x (k : Int)).congr fun i _ => by
                show Value.int .i64 (if i = x then (k : Int) else plcK o k i) = Value.int .i64 (if i = ordN o k then (k : Int) else plcK o k i)
                rw [hox]
              have HST := Lib.hid hst
              clear hc hno hok hA1 hA hst h1 h2 hx hox hneg hbig hlo hhi hok'
              go_wp2
              go_roundw
              case rel => exact ⟨k + 1, by omega, by go_num, below_set hbr hg2 _, HOK'.out, HST.out⟩
              case measure => simp [intOf]; omega
            · have hx' : ¬ IsOrd o n := HNO.out fun h => by
                have h4 := h.ne i k h1 (by omega)
                have h5 := (ordN_cast h (i := i) (by omega)).1
                rw [h3] at h5
                exact h4 (by rw [← h5, hx])
              have HX := Lib.hid hx'
              rw [h2] at hp
              have hi0 : (0 : Int) ≤ (i : Int) := Int.natCast_nonneg _
              clear hc ho hno hok hA1 hA h2 h3 hx hox hneg hbig hlo hhi hx'
              go_wp2
              go_ret2
              exact ⟨hbr, .inr ⟨HX.out, rfl⟩⟩
      · obtain rfl : n = k := by omega
        have hio : IsOrd o n := ⟨HOL.out, hok⟩
        have HIO := Lib.hid hio
        clear hlt hk hio hok hk0 hA1
        go_wp2
        go_ret2
        exact ⟨hbr, .inl ⟨HIO.out, g, hg2, rfl, hA⟩⟩
  · have hne : ((n : Int) != (N : Int)) = true := by simp only [bne_iff_ne, ne_eq]; omega
    have hx : ¬ IsOrd o N := fun h => hnN (by rw [← ho.1]; exact h.1)
    have HX := Lib.hid hx
    clear hx hnN ho hoI
    go_enter Try.func62, Try.ntmps62
    go_wp2
    go_ret2
    exact ⟨Below.refl _ _, .inr ⟨HX.out, rfl⟩⟩

end Go.Proofs.Ytcllnoigppkjiaa
