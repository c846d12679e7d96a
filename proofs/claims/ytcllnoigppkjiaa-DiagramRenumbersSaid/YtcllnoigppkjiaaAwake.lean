/- Walk: awake (the chapter's examples hold). -/
import Derived.Test.YtcllnoigppkjiaaLists
import Derived.Test.YtcllnoigppkjiaaAwakePlain
import Derived.Test.YtcllnoigppkjiaaFaces
import Derived.Test.YtcllnoigppkjiaaStrands
namespace Go.Proofs.Ytcllnoigppkjiaa
open Go.RowKit

theorem RI.lit (w : World) (xs : List Int) : RI (w.alloc (.cells (ints xs).toArray 3)) (some ⟨w.heap.size, 0, none⟩) xs.length xs :=
  ⟨rfl, fun _ => ⟨w.heap.size, 0, rfl, by simp, fun j hj => by
    rw [World.cell?_alloc_at _ _ _ _ rfl, Nat.zero_add]
    simp [ints, List.getD, hj]⟩⟩

def TrefPost (signs mate : List Int) (ns nm : Nat) (w : World) (e : Ending) (w' : World) : Prop :=
  ∃ A B, e = .returned (dval A ns ns B nm nm 0) ∧ DV w' A ns B nm signs mate ∧ Below w.heap.size w w'

set_option maxHeartbeats 800000 in
theorem tref_any (w : World) : Calls Try.prog 40 #[] w (TrefPost trS trM 3 12 w) := by
  go_enter Try.func40, Try.ntmps40
  go_wp2
  refine bodyPost_ret (v := dval (some ⟨w.heap.size + 1, 0, none⟩) 3 3 (some ⟨w.heap.size + 1 + 1, 0, none⟩) 12 12 0) (by simp [results, Try.results40, go_sem]) rfl ⟨_, _, rfl, ⟨?_, ?_, by omega, by omega, ?_⟩, ?_⟩
  · have := (RI.lit (w.alloc (dbox (some ⟨w.heap.size + 1, 0, none⟩) 3 3 (some ⟨w.heap.size + 1 + 1, 0, none⟩) 12 12 0)) trS).alloc (.cells (ints trM).toArray 3)
    simpa [trS, trM, ints] using this
  · have := RI.lit ((w.alloc (dbox (some ⟨w.heap.size + 1, 0, none⟩) 3 3 (some ⟨w.heap.size + 1 + 1, 0, none⟩) 12 12 0)).alloc (.cells (ints trS).toArray 3)) trM
    simpa [trS, trM, ints] using this
  · exact (by decide : ∀ j, j < 12 → -9223372036854775808 ≤ mt trM j ∧ mt trM j ≤ 9223372036854775807)
  · exact below_step (below_step (below_alloc _ _) (below_alloc _ _)) (below_alloc _ _)
set_option maxHeartbeats 800000 in
theorem kink_any (w : World) : Calls Try.prog 41 #[] w (TrefPost kkS kkM 1 4 w) := by
  go_enter Try.func41, Try.ntmps41
  go_wp2
  refine bodyPost_ret (v := dval (some ⟨w.heap.size + 1, 0, none⟩) 1 1 (some ⟨w.heap.size + 1 + 1, 0, none⟩) 4 4 0) (by simp [results, Try.results41, go_sem]) rfl ⟨_, _, rfl, ⟨?_, ?_, by omega, by omega, ?_⟩, ?_⟩
  · have := (RI.lit (w.alloc (dbox (some ⟨w.heap.size + 1, 0, none⟩) 1 1 (some ⟨w.heap.size + 1 + 1, 0, none⟩) 4 4 0)) kkS).alloc (.cells (ints kkM).toArray 3)
    simpa [kkS, kkM, ints] using this
  · have := RI.lit ((w.alloc (dbox (some ⟨w.heap.size + 1, 0, none⟩) 1 1 (some ⟨w.heap.size + 1 + 1, 0, none⟩) 4 4 0)).alloc (.cells (ints kkS).toArray 3)) kkM
    simpa [kkS, kkM, ints] using this
  · exact (by decide : ∀ j, j < 4 → -9223372036854775808 ≤ mt kkM j ∧ mt kkM j ≤ 9223372036854775807)
  · exact below_step (below_step (below_alloc _ _) (below_alloc _ _)) (below_alloc _ _)

abbrev kkLit (w : World) : World := (((w.alloc (.cells #[.int .i64 0] 3)).alloc (.cells #[.int .i64 1, .int .i64 3] 3)).alloc (.cells #[.int .i64 2] 3)).alloc
  (.cells #[.slice (some ⟨w.heap.size, 0, none⟩) 1 1, .slice (some ⟨w.heap.size + 1, 0, none⟩) 2 2, .slice (some ⟨w.heap.size + 1 + 1, 0, none⟩) 1 1] 22)
theorem kkLit_below (w : World) : Below w.heap.size w (kkLit w) := below_step (below_step (below_step (below_alloc _ _) (below_alloc _ _)) (below_alloc _ _)) (below_alloc _ _)
theorem kkLit_ro (w : World) : RO (kkLit w) (some ⟨w.heap.size + 1 + 1 + 1, 0, none⟩) 3 [[0], [1, 3], [2]] := by
  refine ⟨rfl, fun _ => ⟨_, 0, rfl, by simp [kkLit], fun j hj => ?_⟩⟩
  have c : ∀ i, (kkLit w).cell? ⟨w.heap.size + 1 + 1 + 1, i, none⟩ = (#[Value.slice (some ⟨w.heap.size, 0, none⟩) 1 1, .slice (some ⟨w.heap.size + 1, 0, none⟩) 2 2, .slice (some ⟨w.heap.size + 1 + 1, 0, none⟩) 1 1])[i]? := fun i => World.cell?_alloc_at _ _ _ _ (by simp)
  have r0 := (((RI.lit w [0]).alloc (.cells #[.int .i64 1, .int .i64 3] 3)).alloc (.cells #[.int .i64 2] 3)).alloc (.cells #[.slice (some ⟨w.heap.size, 0, none⟩) 1 1, .slice (some ⟨w.heap.size + 1, 0, none⟩) 2 2, .slice (some ⟨w.heap.size + 1 + 1, 0, none⟩) 1 1] 22)
  have r1 := ((RI.lit (w.alloc (.cells #[.int .i64 0] 3)) [1, 3]).alloc (.cells #[.int .i64 2] 3)).alloc (.cells #[.slice (some ⟨w.heap.size, 0, none⟩) 1 1, .slice (some ⟨w.heap.size + 1, 0, none⟩) 2 2, .slice (some ⟨w.heap.size + 1 + 1, 0, none⟩) 1 1] 22)
  have r2 := (RI.lit ((w.alloc (.cells #[.int .i64 0] 3)).alloc (.cells #[.int .i64 1, .int .i64 3] 3)) [2]).alloc (.cells #[.slice (some ⟨w.heap.size, 0, none⟩) 1 1, .slice (some ⟨w.heap.size + 1, 0, none⟩) 2 2, .slice (some ⟨w.heap.size + 1 + 1, 0, none⟩) 1 1] 22)
  match j, hj with
  | 0, _ => exact ⟨_, 1, 1, c 0, by simpa [ints] using r0⟩
  | 1, _ => exact ⟨_, 2, 2, c 1, by simpa [ints] using r1⟩
  | 2, _ => exact ⟨_, 1, 1, c 2, by simpa [ints] using r2⟩

set_option maxHeartbeats 3200000 in
theorem awake_any (w : World) : Calls Try.prog 11 #[] w fun e w' => e = .returned (.bool true) ∧ Below w.heap.size w w' := by
  go_enter Try.func11, Try.ntmps11
  go_wp2_with fail
  refine (tref_any _).mono ?_
  rintro e w1 ⟨A1, B1, rfl, dv1, hb1⟩
  go_wp2_with fail
  refine (faces_any _ _ _ _ _ _ _ trS trM _ dv1).mono ?_
  rintro e w2 ⟨vf, rfl, hof, hb2⟩
  rw [tr_faces] at hof
  go_wp2_with fail
  refine (tref_any _).mono ?_
  rintro e w3 ⟨A3, B3, rfl, dv3, hb3⟩
  go_wp2_with fail
  refine (strands_any _ _ _ _ _ _ _ trS trM _ dv3).mono ?_
  rintro e w4 ⟨vs, rfl, hos, hb4⟩
  rw [tr_strands] at hos
  go_wp2_with fail
  refine (tref_any _).mono ?_
  rintro e w5 ⟨A5, B5, rfl, dv5, hb5⟩
  go_wp2_with fail
  refine (dv5.valid _ _ _ true tr_valid).mono ?_
  rintro e w6 ⟨rfl, hb6⟩
  obtain ⟨Af, cf, rfl, hrf0⟩ := hof.ro
  obtain ⟨As, cs, rfl, hrs0⟩ := hos.ro
  have hrf := (((hrf0.keep hb3).keep hb4).keep hb5).keep hb6
  have hrs := (hrs0.keep hb5).keep hb6
  obtain ⟨bf, of, rfl, hbf⟩ := hrf.at_ (by decide)
  obtain ⟨bs, os, rfl, hbs⟩ := hrs.at_ (by decide)
  obtain ⟨F0, n0, c0, hf0, hF0⟩ := hrf.el 0 (by decide)
  obtain ⟨F4, n4, c4, hf4, hF4⟩ := hrf.el 4 (by decide)
  obtain ⟨S0, m0, k0, hs0, hS0⟩ := hrs.el 0 (by decide)
  have hw16 := below_step (below_step (below_step (below_step (below_step hb1 hb2) hb3) hb4) hb5) hb6
  clear hrf0 hrs0 hof hos dv1 dv3 dv5 hb1 hb2 hb3 hb4 hb5 hb6
  have e0 : n0 = 3 := hF0.1.symm
  have e4 : n4 = 2 := hF4.1.symm
  have es : m0 = 6 := hS0.1.symm
  subst e0; subst e4; subst es
  simp only [Nat.add_zero] at hf0 hs0
  have hF0' : RI w6 F0 3 [0, 8, 4] := hF0
  have hF4' : RI w6 F4 2 [5, 11] := hF4
  have hS0' : RI w6 S0 6 [1, 6, 9, 2, 5, 10] := hS0
  clear hF0 hF4 hS0 hrf hrs
  go_wp2_with fail
  refine (ints_r true F0 _ _ _ _ _ [0, 8, 4] [0, 8, 4] _ (hF0'.alloc _) (by simpa [ints] using RI.lit w6 [0, 8, 4]) (by omega) (by omega) rfl).mono ?_
  rintro e w7 ⟨rfl, hb7⟩
  have hbb := below_step (below_alloc w6 _) hb7
  have hf4' := (hbb.cell (p := ⟨bf, of + 4, none⟩) hbf).trans hf4
  have hs0' := (hbb.cell (p := ⟨bs, os, none⟩) hbs).trans hs0
  have hF47 := hF4'.keep hbb
  have hS07 := hS0'.keep hbb
  have hw17 := below_step hw16 hbb
  have hbs7 := Nat.lt_of_lt_of_le hbs hbb.size
  clear hf4 hs0 hf0 hF4' hS0' hF0' hb7 hbb hw16 hbf hbs
  go_wp2_with fail
  refine (ints_r true F4 _ _ _ _ _ [5, 11] [5, 11] _ (hF47.alloc _) (by simpa [ints] using RI.lit w7 [5, 11]) (by omega) (by omega) rfl).mono ?_
  rintro e w8 ⟨rfl, hb8⟩
  have hbb := below_step (below_alloc w7 _) hb8
  have hs08 := (hbb.cell (p := ⟨bs, os, none⟩) hbs7).trans hs0'
  have hS08 := hS07.keep hbb
  have hw18 := below_step hw17 hbb
  clear hs0' hS07 hF47 hf4' hb8 hbb hw17 hbs7
  go_wp2_with fail
  refine (ints_r true S0 _ _ _ _ _ [1, 6, 9, 2, 5, 10] [1, 6, 9, 2, 5, 10] _ (hS08.alloc _) (by simpa [ints] using RI.lit w8 [1, 6, 9, 2, 5, 10]) (by omega) (by omega) rfl).mono ?_
  rintro e w9 ⟨rfl, hb9⟩
  have hw19 := below_step hw18 (below_step (below_alloc w8 _) hb9)
  clear hs08 hS08 hb9 hw18
  go_wp2_with fail
  refine (kink_any _).mono ?_
  rintro e w10 ⟨A10, B10, rfl, dv10, hb10⟩
  go_wp2_with fail
  refine (faces_any _ _ _ _ _ _ _ kkS kkM _ dv10).mono ?_
  rintro e w11 ⟨vk, rfl, hok, hb11⟩
  rw [kk_faces] at hok
  obtain ⟨Ak, ck, rfl, hrk⟩ := hok.ro
  go_wp2_with fail
  refine (lists_r true Ak _ _ _ _ _ [[0], [1, 3], [2]] [[0], [1, 3], [2]] _ (hrk.keep (kkLit_below w11)) (kkLit_ro w11) (by decide) (by decide) (by decide) (by decide) rfl).mono ?_
  rintro e w12 ⟨rfl, hb12⟩
  have hw := below_step hw19 (below_step hb10 (below_step hb11 (below_step (kkLit_below w11) hb12)))
  clear hrk hok dv10 hb10 hb11 hb12 hw19
  go_wp2
  go_ret
  exact ⟨rfl, hw⟩

end Go.Proofs.Ytcllnoigppkjiaa
