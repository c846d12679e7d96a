import Derived.Test.YtambhopkacgddaaDoorE07
import Derived.Test.YtambhopkacgddaaDoorE06
import Derived.Test.YtambhopkacgddaaDoorE05
import Derived.Test.YtambhopkacgddaaDoorE01
import Derived.Deep.LoopGhost
import Derived.Test.YtambhopkacgddaaDoorE03
import Derived.ProofKit
import Derived.Lib.SmallJoins
/- Walk: dowker.Diagram and dowker.Signs. -/
namespace Go.Proofs.YtambhopkacgddaaDoor
open Go.RowKit

/-- The error, the signs and the mates of the diagram of a code. -/
def dgS (code : List Int) : Option (List Int) := srch code (code.length - 1) [1]
def dgE (code : List Int) : Int := if dvB code = false then 3 else if 14 < code.length then 5 else match dgS code with
  | none => 7
  | some _ => 0
def dgL (code : List Int) : List Int := if dvB code = false then [] else if 14 < code.length then [] else match dgS code with
  | none => []
  | some l => l
def dgM (code : List Int) : List Int := if dvB code = false then [] else if 14 < code.length then [] else match dgS code with
  | none => []
  | some l => mkM code l
def DgPost (code : List Int) (w : World) (e : Ending) (w' : World) : Prop :=
  ∃ A ns cs B nm cm, e = .returned (.tuple #[dval A ns cs B nm cm 0, .int .i64 (dgE code)]) ∧ RI w' A ns (dgL code) ∧ RI w' B nm (dgM code) ∧ Below w.heap.size w w'
def SgPost (code : List Int) (w : World) (e : Ending) (w' : World) : Prop :=
  ∃ A ns cs, e = .returned (.tuple #[.slice A ns cs, .int .i64 (dgE code)]) ∧ RI w' A ns (dgL code) ∧ Below w.heap.size w w'

theorem bx_new (w : World) : BxAt (w.alloc (.cells #[.slice none 0 0, .slice none 0 0, .int .i64 0] 35)) w.heap.size := bx_pre (heap_alloc_new w _) (Below.refl _ _)
theorem set3w_bx {w : World} {g : Nat} (h : BxAt w g) (a b c : Value) : (set3w w g a b c).cell? ⟨g, 0, none⟩ = some a ∧ (set3w w g a b c).cell? ⟨g, 1, none⟩ = some b ∧ (set3w w g a b c).cell? ⟨g, 2, none⟩ = some c := set3w_cells w g a b c h.1.1 h.1.2.1 h.1.2.2.1
theorem RI.set3w {w : World} {A : Option Addr} {n g : Nat} {xs : List Int} (h : RI w A n xs) (hg : ∀ b, b < w.heap.size → (∃ o, A = some ⟨b, o, none⟩) → b ≠ g) (x y z : Value) : RI (Go.Proofs.YtambhopkacgddaaDoor.set3w w g x y z) A n xs := by
  refine ⟨h.1, fun hn => ?_⟩
  obtain ⟨b, off, rfl, hb, hc⟩ := h.2 hn
  have := hg b hb ⟨off, rfl⟩
  exact ⟨b, off, rfl, by simp [World.setCell]; exact hb, fun j hj => by
    rw [World.cell?_setCell_other _ _ _ _ (by simp <;> omega), World.cell?_setCell_other _ _ _ _ (by simp <;> omega), World.cell?_setCell_other _ _ _ _ (by simp <;> omega)]; exact hc j hj⟩

set_option maxHeartbeats 3200000 in
set_option maxRecDepth 100000 in
theorem diagram_any (C : Option Addr) (n cc : Nat) (code : List Int) (w : World) (hC : RI w C n code) (hn : n ≤ 9223372036854775807) (hI : inL code) :
    Calls Tryd.prog 13 #[.slice C n cc] w (DgPost code w) := by
  have hl := hC.1
  have hb0 := below_alloc w (.cells #[.slice none 0 0, .slice none 0 0, .int .i64 0] 35)
  have hx0 := bx_new w
  have hg : w.heap.size < (w.alloc (.cells #[.slice none 0 0, .slice none 0 0, .int .i64 0] 35)).heap.size := by simp
  have HC := Lib.hid (hC.keep hb0)
  have HI := Lib.hid hI
  cases hv : dvB code with
  | false =>
    have CV := Lib.hid (dvalid_r false C n cc code (w.alloc (.cells #[.slice none 0 0, .slice none 0 0, .int .i64 0] 35)) HC.out hn HI.out hv.symm)
    have HE : Hid (dgE code = 3 ∧ dgL code = [] ∧ dgM code = []) := Lib.hid (by simp [dgE, dgL, dgM, hv])
    have HX := Lib.hid hx0
    clear hC hI hv hl hx0
    go_enter Tryd.func13, Tryd.ntmps13
    go_wp2_with (go_at_call 19; ((with_reducible refine CV.out.mono ?_); rintro e w1 ⟨rfl, hb1⟩; have hx1 := HX.out.kp hb1; have r0 := hx1.1.1; have r1 := hx1.1.2.1; have r2 := hx1.1.2.2.1; have g0 := hx1.2 0; have g1 := hx1.2 1; have g2 := hx1.2 2))
    obtain ⟨k0, k1, k2⟩ := set3w_bx hx1 (.slice none 0 0) (.slice none 0 0) (.int .i64 0)
    obtain ⟨z1, z2, z3⟩ := HE.out
    have HF := Lib.hid (show DgPost code w (.returned (.tuple #[dval none 0 0 none 0 0 0, .int .i64 3])) (set3w w1 w.heap.size (.slice none 0 0) (.slice none 0 0) (.int .i64 0)) from ⟨none, 0, 0, none, 0, 0, by rw [z1], by rw [z2]; exact RI.nil _ _, by rw [z3]; exact RI.nil _ _, set3w_below (below_step hb0 hb1) (Nat.le_refl _) _ _ _⟩)
    exact bodyPost_ret (v := .tuple #[dval none 0 0 none 0 0 0, .int .i64 3]) (by simp [results, Tryd.results13, go_sem, k0, k1, k2]) rfl HF.out
  | true =>
    have hn64 : n ≤ 64 := by have := (dvB_iff code).1 hv; omega
    have CV := Lib.hid (dvalid_r true C n cc code (w.alloc (.cells #[.slice none 0 0, .slice none 0 0, .int .i64 0] 35)) HC.out hn HI.out hv.symm)
    have HX := Lib.hid hx0
    by_cases h14 : 14 < n
    · have HE : Hid (dgE code = 5 ∧ dgL code = [] ∧ dgM code = []) := Lib.hid (by simp [dgE, dgL, dgM, hv, hl, h14])
      have h14' : 14 < (n : Int) := by omega
      clear hC hI hv hl hx0
      go_enter Tryd.func13, Tryd.ntmps13
      go_wp2_with (go_at_call 19; ((with_reducible refine CV.out.mono ?_); rintro e w1 ⟨rfl, hb1⟩; have hx1 := HX.out.kp hb1; have r0 := hx1.1.1; have r1 := hx1.1.2.1; have r2 := hx1.1.2.2.1; have g0 := hx1.2 0; have g1 := hx1.2 1; have g2 := hx1.2 2))
      obtain ⟨k0, k1, k2⟩ := set3w_bx hx1 (.slice none 0 0) (.slice none 0 0) (.int .i64 0)
      obtain ⟨z1, z2, z3⟩ := HE.out
      have HF := Lib.hid (show DgPost code w (.returned (.tuple #[dval none 0 0 none 0 0 0, .int .i64 5])) (set3w w1 w.heap.size (.slice none 0 0) (.slice none 0 0) (.int .i64 0)) from ⟨none, 0, 0, none, 0, 0, by rw [z1], by rw [z2]; exact RI.nil _ _, by rw [z3]; exact RI.nil _ _, set3w_below (below_step hb0 hb1) (Nat.le_refl _) _ _ _⟩)
      exact bodyPost_ret (v := .tuple #[dval none 0 0 none 0 0 0, .int .i64 5]) (by simp [results, Tryd.results13, go_sem, k0, k1, k2]) rfl HF.out
    · have h14' : ¬ 14 < (n : Int) := by omega
      have CF : ∀ W, Below (w.alloc (.cells #[.slice none 0 0, .slice none 0 0, .int .i64 0] 35)).heap.size (w.alloc (.cells #[.slice none 0 0, .slice none 0 0, .int .i64 0] 35)) W → Hid (Calls Tryd.prog 21 #[.slice C n cc] W (FirstPost code n W (dgS code))) := fun W hb => by
        have := first_any C n cc code W (HC.out.keep hb) hn64 HI.out hv
        unfold dgS; rw [hl]; exact this
      cases hq : dgS code with
      | none =>
        have HE : Hid (dgE code = 7 ∧ dgL code = [] ∧ dgM code = []) := Lib.hid (by simp [dgE, dgL, dgM, hv, hl, h14, hq])
        simp only [hq] at CF
        clear hC hI hv hl hx0 hq
        go_enter Tryd.func13, Tryd.ntmps13
        go_wp2_with (first
          | (go_at_call 19; ((with_reducible refine CV.out.mono ?_); rintro e w1 ⟨rfl, hb1⟩; have hx1 := HX.out.kp hb1))
          | (go_at_call 21; ((with_reducible refine (CF _ hb1).out.mono ?_); rintro e w2 ⟨hb2, rfl⟩; have hx2 := (hx1.kp hb2).al (.cells #[.slice none 0 0, .slice none 0 0, .int .i64 0] 35); have r0 := hx2.1.1; have r1 := hx2.1.2.1; have r2 := hx2.1.2.2.1; have g0 := hx2.2 0; have g1 := hx2.2 1; have g2 := hx2.2 2)))
        obtain ⟨k0, k1, k2⟩ := set3w_bx hx2 (.slice none 0 0) (.slice none 0 0) (.int .i64 0)
        obtain ⟨z1, z2, z3⟩ := HE.out
        have hb3 := below_step (below_step (below_step hb0 hb1) hb2) (below_alloc w2 (.cells #[.slice none 0 0, .slice none 0 0, .int .i64 0] 35))
        have HF := Lib.hid (show DgPost code w (.returned (.tuple #[dval none 0 0 none 0 0 0, .int .i64 7])) (set3w (w2.alloc (.cells #[.slice none 0 0, .slice none 0 0, .int .i64 0] 35)) w.heap.size (.slice none 0 0) (.slice none 0 0) (.int .i64 0)) from ⟨none, 0, 0, none, 0, 0, by rw [z1], by rw [z2]; exact RI.nil _ _, by rw [z3]; exact RI.nil _ _, set3w_below hb3 (Nat.le_refl _) _ _ _⟩)
        exact bodyPost_ret (v := .tuple #[dval none 0 0 none 0 0 0, .int .i64 7]) (by simp [results, Tryd.results13, go_sem, k0, k1, k2]) rfl HF.out
      | some l =>
        have HE : Hid (dgE code = 0 ∧ dgL code = l ∧ dgM code = mkM code l) := Lib.hid (by simp [dgE, dgL, dgM, hv, hl, h14, hq])
        simp only [hq] at CF
        clear hC hI hv hl hx0 hq
        go_enter Tryd.func13, Tryd.ntmps13
        go_wp2_with (first
          | (go_at_call 19; ((with_reducible refine CV.out.mono ?_); rintro e w1 ⟨rfl, hb1⟩; have hx1 := HX.out.kp hb1))
          | (go_at_call 21; ((with_reducible refine (CF _ hb1).out.mono ?_); rintro e w2 ⟨hb2, gS, gM, rfl, hS, hM, hgS, hgM⟩; have hx2 := (hx1.kp hb2).al (.cells #[.slice (some ⟨gS, 0, none⟩) n n, .slice (some ⟨gM, 0, none⟩) (4 * n) (4 * n), .int .i64 0] 35); have r0 := hx2.1.1; have r1 := hx2.1.2.1; have r2 := hx2.1.2.2.1; have g0 := hx2.2 0; have g1 := hx2.2 1; have g2 := hx2.2 2)))
        obtain ⟨k0, k1, k2⟩ := set3w_bx hx2 (.slice (some ⟨gS, 0, none⟩) n n) (.slice (some ⟨gM, 0, none⟩) (4 * n) (4 * n)) (.int .i64 0)
        obtain ⟨z1, z2, z3⟩ := HE.out
        have hsz := hb1.size
        have hb3 := below_step (below_step (below_step hb0 hb1) hb2) (below_alloc w2 (.cells #[.slice (some ⟨gS, 0, none⟩) n n, .slice (some ⟨gM, 0, none⟩) (4 * n) (4 * n), .int .i64 0] 35))
        have hS3 := (hS.alloc (.cells #[.slice (some ⟨gS, 0, none⟩) n n, .slice (some ⟨gM, 0, none⟩) (4 * n) (4 * n), .int .i64 0] 35)).set3w (g := w.heap.size) (fun b _ ⟨o, e⟩ => by injection e with e; injection e with e1; omega) (.slice (some ⟨gS, 0, none⟩) n n) (.slice (some ⟨gM, 0, none⟩) (4 * n) (4 * n)) (.int .i64 0)
        have hM3 := (hM.alloc (.cells #[.slice (some ⟨gS, 0, none⟩) n n, .slice (some ⟨gM, 0, none⟩) (4 * n) (4 * n), .int .i64 0] 35)).set3w (g := w.heap.size) (fun b _ ⟨o, e⟩ => by injection e with e; injection e with e1; omega) (.slice (some ⟨gS, 0, none⟩) n n) (.slice (some ⟨gM, 0, none⟩) (4 * n) (4 * n)) (.int .i64 0)
        have HF := Lib.hid (show DgPost code w (.returned (.tuple #[dval (some ⟨gS, 0, none⟩) n n (some ⟨gM, 0, none⟩) (4 * n) (4 * n) 0, .int .i64 0])) (set3w (w2.alloc (.cells #[.slice (some ⟨gS, 0, none⟩) n n, .slice (some ⟨gM, 0, none⟩) (4 * n) (4 * n), .int .i64 0] 35)) w.heap.size (.slice (some ⟨gS, 0, none⟩) n n) (.slice (some ⟨gM, 0, none⟩) (4 * n) (4 * n)) (.int .i64 0)) from ⟨_, n, n, _, 4 * n, 4 * n, by rw [z1], by rw [z2]; exact hS3, by rw [z3]; exact hM3, set3w_below hb3 (Nat.le_refl _) _ _ _⟩)
        exact bodyPost_ret (v := .tuple #[dval (some ⟨gS, 0, none⟩) n n (some ⟨gM, 0, none⟩) (4 * n) (4 * n) 0, .int .i64 0]) (by simp [results, Tryd.results13, go_sem, k0, k1, k2]) rfl HF.out

set_option maxHeartbeats 1600000 in
theorem dsigns_any (C : Option Addr) (n cc : Nat) (code : List Int) (w : World) (hC : RI w C n code) (hn : n ≤ 9223372036854775807) (hI : inL code) :
    Calls Tryd.prog 12 #[.slice C n cc] w (SgPost code w) := by
  have CD := Lib.hid (diagram_any C n cc code w hC hn hI)
  clear hC hn hI
  go_enter Tryd.func12, Tryd.ntmps12
  go_wp2_with (go_at_call 13; ((with_reducible refine CD.out.mono ?_); rintro e w1 ⟨A, ns, cs, B, nm, cm, rfl, h1, h2, hb1⟩))
  go_ret2
  exact ⟨A, ns, cs, rfl, h1.alloc _, below_step hb1 (below_alloc _ _)⟩

end Go.Proofs.YtambhopkacgddaaDoor

/- The example of the chapter on Dowker codes, computed. -/
namespace Go.Proofs.YtambhopkacgddaaDoor
open Go.RowKit

def exC : List Int := [4, 6, 2]
def exS : List Int := [1, 1, 1]
def exM : List Int := [5, 8, 11, 6, 9, 0, 3, 10, 1, 4, 7, 2]
theorem ex_inL : inL exC := by
  intro j
  by_cases h : j < 3
  · match j, h with
    | 0, _ => decide
    | 1, _ => decide
    | 2, _ => decide
  · have : exC.getD j 0 = 0 := by simp [List.getD, exC, show 3 ≤ j by omega]
    rw [this]; decide
theorem ex_dv : dvB exC = true := by decide +kernel
theorem ex_mk : mkM exC exS = exM := by decide +kernel
theorem ex_lab : IsLab (matesOf exM) 12 3 (fun _ => 0) := by
  refine ⟨fun c hc => ⟨Nat.zero_le _, ?_⟩, fun _ _ => rfl⟩
  have h0 : Conn (matesOf exM) 12 0 1 := Conn.step 0 (by omega) (Conn.refl 0)
  have h1 : Conn (matesOf exM) 12 0 2 := Conn.step 1 (by omega) (Conn.refl 0)
  match c, hc with
  | 0, _ => exact .refl _
  | 1, _ => exact h0.symm
  | 2, _ => exact h1.symm
theorem ex_sph : sphM exM 3 = true := by
  show sphB (ufLab (matesOf exM) 12) (ff (matesOf exM)) (4 * 3) 3 = true
  rw [sphB_congr (G := fun _ => 0) fun c hc => (ufLab_isLab (matesOf exM) 12 3).unique ex_lab c hc]
  decide +kernel
theorem ex_valid : validB exS exM 0 = true := by
  unfold validB
  rw [show exS.length = 3 from rfl, ex_sph]
  decide +kernel
theorem ex_strands : strandsM exS exM 0 = [[1, 10, 5, 2, 9, 6]] := by
  unfold strandsM; rw [if_pos ex_valid]; decide +kernel
theorem ex_dgS : dgS exC = some exS := by
  have h0 : srch exC 0 exS = some exS := by
    show (if validB exS (mkM exC exS) 0 = true then some exS else none) = _
    rw [ex_mk, ex_valid]; rfl
  have h1 : srch exC 1 [1, 1] = some exS := by
    show (match srch exC 0 exS with | some l => some l | none => _) = _
    rw [h0]
  show (match srch exC 1 [1, 1] with | some l => some l | none => _) = _
  rw [h1]
theorem ex_dg : dgE exC = 0 ∧ dgL exC = exS ∧ dgM exC = exM := by
  have h14 : ¬ 14 < exC.length := by decide
  have hf : ¬ (true = false) := by decide
  refine ⟨?_, ?_, ?_⟩
  · unfold dgE; rw [ex_dv, if_neg hf, if_neg h14, ex_dgS]
  · unfold dgL; rw [ex_dv, if_neg hf, if_neg h14, ex_dgS]
  · unfold dgM; rw [ex_dv, if_neg hf, if_neg h14, ex_dgS]; exact ex_mk
theorem ex_of : ofE exS exM 0 = 0 ∧ ofL exS exM 0 = exC := by
  have hf : ¬ (true = false) := by decide
  have h0 : ¬ exS.length = 0 := by decide
  have h1 : ¬ 1 < compM exS exM 0 := by unfold compM; rw [if_pos ex_valid, ex_strands]; decide
  refine ⟨?_, ?_⟩
  · unfold ofE; rw [ex_valid, if_neg hf, if_neg h0, if_neg h1]
  · unfold ofL; rw [ex_valid, if_neg hf, if_neg h0, if_neg h1, ex_strands]; decide +kernel

end Go.Proofs.YtambhopkacgddaaDoor

/- Walk: awake of layer 4. -/
namespace Go.Proofs.YtambhopkacgddaaDoor
open Go.RowKit

theorem ri_lit (w : World) (xs : List Int) : RI (w.alloc (.cells (ints xs).toArray 3)) (some ⟨w.heap.size, 0, none⟩) xs.length xs :=
  ⟨rfl, fun _ => ⟨w.heap.size, 0, rfl, by simp, fun j hj => by
    rw [World.cell?_alloc_at _ _ _ _ rfl, Nat.zero_add]
    simp [ints, List.getD, hj]⟩⟩
theorem ex_signs (A : Option Addr) (c : Nat) (W : World) (h : RI W A 3 exC) : Calls Tryd.prog 12 #[.slice A 3 c] W fun e w' => ∃ A' cs, e = .returned (.tuple #[.slice A' 3 cs, .int .i64 0]) ∧ RI w' A' 3 exS ∧ Below W.heap.size W w' := by
  refine (dsigns_any A 3 c exC W h (by omega) ex_inL).mono ?_
  rintro e w' ⟨A', ns, cs, rfl, h1, hb⟩
  rw [ex_dg.2.1] at h1
  obtain rfl : ns = 3 := h1.1.symm
  exact ⟨A', cs, by rw [ex_dg.1], h1, hb⟩
theorem ex_diagram (A : Option Addr) (c : Nat) (W : World) (h : RI W A 3 exC) : Calls Tryd.prog 13 #[.slice A 3 c] W fun e w' => ∃ A' cs B cm, e = .returned (.tuple #[dval A' 3 cs B 12 cm 0, .int .i64 0]) ∧ DV w' A' 3 B 12 exS exM ∧ Below W.heap.size W w' := by
  refine (diagram_any A 3 c exC W h (by omega) ex_inL).mono ?_
  rintro e w' ⟨A', ns, cs, B, nm, cm, rfl, h1, h2, hb⟩
  rw [ex_dg.2.1] at h1
  rw [ex_dg.2.2] at h2
  obtain rfl : ns = 3 := h1.1.symm
  obtain rfl : nm = 12 := h2.1.symm
  exact ⟨A', cs, B, cm, by rw [ex_dg.1], ⟨h1, h2, by omega, by omega, by decide⟩, hb⟩
theorem ex_dof (A B : Option Addr) (cs cm : Nat) (W : World) (h : DV W A 3 B 12 exS exM) : Calls Tryd.prog 14 #[dval A 3 cs B 12 cm 0] W fun e w' => ∃ A' c, e = .returned (.tuple #[.slice A' 3 c, .int .i64 0]) ∧ RI w' A' 3 exC ∧ Below W.heap.size W w' := by
  refine (dof_any A B 3 cs 12 cm 0 exS exM W h).mono ?_
  rintro e w' ⟨A', n, c, rfl, h1, hb⟩
  rw [ex_of.2] at h1
  obtain rfl : n = 3 := h1.1.symm
  exact ⟨A', c, by rw [ex_of.1], h1, hb⟩

set_option maxHeartbeats 3200000 in
set_option maxRecDepth 100000 in
theorem dawake_any (w : World) : Calls Tryd.prog 5 #[] w fun e w' => e = .returned (.bool true) ∧ Below w.heap.size w w' := by
  go_enter Tryd.func5, Tryd.ntmps5
  go_wp2_with fail
  refine (ex_signs _ _ _ (ri_lit w exC)).mono ?_
  rintro e w1 ⟨A1, c1, rfl, hA1, hb1⟩
  have hw1 := below_step (below_alloc w _) hb1
  clear hb1
  go_wp2_with fail
  refine (ex_diagram _ _ _ (ri_lit w1 exC)).mono ?_
  rintro e w2 ⟨A2, c2, B2, m2, rfl, hD2, hb2⟩
  have hb12 := below_step (below_alloc w1 _) hb2
  have hw2 := below_step hw1 hb12
  have hA2 := hA1.keep hb12
  clear hb2 hw1 hA1 hb12
  go_wp2_with fail
  refine (ex_dof _ _ _ _ _ (hD2.keep (below_alloc _ _))).mono ?_
  rintro e w3 ⟨A3, c3, rfl, hA3, hb3⟩
  have hb23 := below_step (below_alloc w2 _) hb3
  have hw3 := below_step hw2 hb23
  have hA23 := hA2.keep hb23
  clear hb3 hw2 hA2 hb23 hD2
  go_wp2_with fail
  refine (ints_r true _ _ 3 _ 3 _ exS exS _ (hA23.alloc _) (ri_lit w3 exS) (by omega) (by omega) rfl).mono ?_
  rintro e w4 ⟨rfl, hb4⟩
  have hb34 := below_step (below_alloc w3 _) hb4
  have hw4 := below_step hw3 hb34
  have hA34 := hA3.keep hb34
  clear hb4 hw3 hA3 hb34 hA23
  go_wp2_with fail
  refine (ints_r true _ _ 3 _ 3 _ exC exC _ (hA34.alloc _) (ri_lit w4 exC) (by omega) (by omega) rfl).mono ?_
  rintro e w5 ⟨rfl, hb5⟩
  have hw5 := below_step hw4 (below_step (below_alloc w4 _) hb5)
  clear hb5 hw4
  go_wp2
  go_ret
  exact ⟨rfl, hw5⟩

end Go.Proofs.YtambhopkacgddaaDoor

/- Walk: the reference's Valid of a code. -/
namespace Go.Proofs.YtambhopkacgddaaDoor
open Go.RowKit

set_option maxHeartbeats 3200000 in
set_option maxRecDepth 100000 in
theorem rdvalid_r (r : Bool) (A : Option Addr) (n c : Nat) (code : List Int) (w : World) (hs : RI w A n code) (hn : n ≤ 9223372036854775807) (hI : inL code) (hr : r = dvB code) :
    Calls Tryd.prog 9 #[.slice A n c] w fun e w' => e = .returned (.bool r) ∧ w = w' := by
  have hl := hs.1
  by_cases h0 : 1 ≤ n ∧ n ≤ 64
  · obtain ⟨h1, h64⟩ := h0
    obtain ⟨b, off, rfl, hb, hc⟩ := hs.2 (by omega)
    have HD := Lib.hid (dv_cnt hl hI h1 h64)
    have HR := Lib.hid hr
    have HC := Lib.hid hc
    clear hr hI hl hs hc
    have hn1 : ¬ (n : Int) < 1 := by omega
    have hn0 : 0 < (n : Int) := by omega
    have hn2 : (n : Int) ≤ 64 := by omega
    go_enter Tryd.func9, Tryd.ntmps9
    go_wp2
    go_loop [4, 5, 6] (fun u _ _ => ∃ t : Nat, t ≤ n ∧ u = .int .i64 (2 * (t : Int) + 2) ∧ ∀ t' : Nat, t' < t → cntW code (2 * (t' : Int) + 2) n = 1) (fun u _ _ => (2 * (n : Int) + 2 - intOf u).toNat)
    case atStart => exact ⟨0, by omega, rfl, fun t' h => absurd h (by omega)⟩
    case round =>
      obtain ⟨t, ht, rfl, hok⟩ := hrel
      have HOK := Lib.hid hok
      clear hok
      by_cases hlt : t < n
      · obtain ⟨v, hv⟩ : ∃ v, 2 * (t : Int) + 2 = v := ⟨_, rfl⟩
        have hv1 : 2 ≤ v := by omega
        have hv2 : v ≤ 2 * (n : Int) := by omega
        rw [hv]
        have HV := Lib.hid hv
        have hneg : IntKind.i64.wrap (-v) = -v := IntWalk.i64_in _ (by omega)
        clear hv
        go_wp2
        go_loop [5, 6] (fun f i => ∃ k : Nat, k ≤ n ∧ i = .int .i64 k ∧ f = .int .i64 (cntW code v k : Nat)) (fun _ i => n - (intOf i).toNat)
        case atStart => exact ⟨0, by omega, rfl, rfl⟩
        case round =>
          obtain ⟨k, hk, rfl, rfl⟩ := hrel
          by_cases hkl : k < n
          · have hcell := HC.out k hkl
            have hsucc := cntW_succ code v k
            have hle := cntW_le code v k
            obtain ⟨y, hy⟩ : ∃ y, code.getD k 0 = y := ⟨_, rfl⟩
            rw [hy] at hcell hsucc
            obtain ⟨m, hm⟩ : ∃ m, cntW code v k = m := ⟨_, rfl⟩
            rw [hm] at hsucc hle ⊢
            have HSU := Lib.hid hsucc
            have hm0 : (0 : Int) ≤ (m : Int) := Int.natCast_nonneg _
            have hm1 : (m : Int) ≤ 64 := by omega
            have hk0 : (0 : Int) ≤ (k : Int) := Int.natCast_nonneg _
            have hk1 : (k : Int) < (n : Int) := by omega
            clear hsucc hle hy hm
            by_cases q1 : y = v
            · have e : Hid (((m : Nat) : Int) + 1 = ((cntW code v (k + 1) : Nat) : Int)) := by
                have := HSU.out; rw [if_pos (by simp [q1])] at this; rw [this]; show _ = _; omega
              subst q1
              go_wp2
              go_round
              case rel => exact ⟨k + 1, by omega, by go_num, by rw [e.out]⟩
              case measure => simp [intOf]; omega
            · have q1' : (y == v) = false := by simpa using q1
              by_cases q2 : y = -v
              · have e : Hid (((m : Nat) : Int) + 1 = ((cntW code v (k + 1) : Nat) : Int)) := by
                  have := HSU.out; rw [if_pos (by simp [q2])] at this; rw [this]; show _ = _; omega
                have q2' : (y == -v) = true := by simpa using q2
                clear q2 q1
                go_wp2
                go_round
                case rel => exact ⟨k + 1, by omega, by go_num, by rw [e.out]⟩
                case measure => simp [intOf]; omega
              · have e : Hid (m = cntW code v (k + 1)) := by
                  have := HSU.out; rw [if_neg (by simp [q1, q2])] at this; rw [this]; show _ = _; omega
                have q2' : (y == -v) = false := by simpa using q2
                clear q2 q1
                go_wp2
                go_round
                case rel => exact ⟨k + 1, by omega, by go_num, by rw [← e.out]⟩
                case measure => simp [intOf]; omega
          · obtain rfl : n = k := by omega
            have hle := cntW_le code v n
            have hcn : cntW code v n = 1 ∨ (cntW code v n : Int) ≠ 1 := by omega
            rcases hcn with q | q
            · have hall : ∀ t' : Nat, t' < t + 1 → cntW code (2 * (t' : Int) + 2) n = 1 := fun t' h => by
                by_cases e : t' = t
                · subst e; rw [HV.out]; exact q
                · exact HOK.out t' (by omega)
              have HALL := Lib.hid hall
              have hw2 : IntKind.i64.wrap (v + 2) = v + 2 := IntWalk.i64_in _ (by omega)
              have HW : Hid (v + 2 = 2 * ((t + 1 : Nat) : Int) + 2) := by have := HV.out; show _ = _; push_cast; omega
              rw [q]
              clear hall q hle hkl hk
              go_wp2
              go_round
              case rel => exact ⟨t + 1, by omega, by rw [HW.out], HALL.out⟩
              case measure => have := HW.out; have := HV.out; simp [intOf]; omega
            · have e : r = false := by
                rw [HR.out]
                cases qq : dvB code with
                | false => rfl
                | true => have := HD.out.1 qq t hlt; rw [HV.out] at this; omega
              have HE := Lib.hid e
              obtain ⟨m, hm⟩ : ∃ m : Int, (cntW code v n : Int) = m := ⟨_, rfl⟩
              rw [hm] at q ⊢
              have q' : (m == 1) = false := by simpa using q
              clear e q hm hle hkl hk
              go_wp2
              go_ret
              exact ⟨ret_bool HE.out.symm, rfl⟩
      · obtain rfl : t = n := by omega
        have e : r = true := by
          rw [HR.out]; exact HD.out.2 HOK.out
        have HE := Lib.hid e
        clear e hlt ht
        go_wp2
        go_ret
        exact ⟨ret_bool HE.out.symm, rfl⟩
  · have e : r = false := by
      rw [hr]
      cases q : dvB code with
      | false => rfl
      | true => have := (dvB_iff _).1 q; omega
    have HE := Lib.hid e
    clear e hr hI hs hl
    by_cases h1 : n < 1
    · have h1' : (n : Int) < 1 := by omega
      clear h0
      go_enter Tryd.func9, Tryd.ntmps9
      go_wp2
      go_ret
      exact ⟨ret_bool HE.out.symm, rfl⟩
    · have h1' : ¬ (n : Int) < 1 := by omega
      have h2' : 64 < (n : Int) := by omega
      clear h0
      go_enter Tryd.func9, Tryd.ntmps9
      go_wp2
      go_ret
      exact ⟨ret_bool HE.out.symm, rfl⟩

end Go.Proofs.YtambhopkacgddaaDoor

/- Opening a diagram that comes in, and shutting a law's call. -/
namespace Go.Proofs.YtambhopkacgddaaDoor
open Go.ChangeShapes Go.WideShapes Go.ChangeAt Go.RowKit Go.Joins

theorem Tryd.own : ownKnob Tryd.prog.godebug = none := by kernel_rfl
theorem Tryd.laidOut : laidOutB Tryd.prog = true := by kernel_rfl
theorem Tryd.cellsI : Tryd.prog.cellsOf 3 = 1 := by kernel_rfl
theorem Tryd.cellsD : Tryd.prog.cellsOf 35 = 3 := by kernel_rfl

def inI (x : Int) : Prop := -9223372036854775808 ≤ x ∧ x ≤ 9223372036854775807
theorem inI_of_wf {x : Int} (h : (Lit.int .i64 x).wf = true) : inI x := by
  have h1 : IntKind.i64.min = -9223372036854775808 := rfl
  have h2 : IntKind.i64.max = 9223372036854775807 := rfl
  simp only [Lit.wf, Bool.and_eq_true, decide_eq_true_eq] at h
  unfold inI; omega

section
variable {H : Type} {enc : TypeId × Value → H} {W : World}

set_option maxRecDepth 100000 in
/-- A slice of ints that comes in reads as a list. -/
theorem open_ri {fuel : Nat} {v : Value} {x : DataW H × List MemPlace} (h : DataW.trod enc Tryd.prog W 0 (fun _ => true) true fuel 22 [v] = some x) :
    ∃ A n c xs, v = .slice A n c ∧ RI W A n xs ∧ n ≤ 9223372036854775807 ∧ ∀ y ∈ xs, inI y := by
  rcases open_ints Tryd.underlying22 Tryd.underlying3 Tryd.cellsI h with ⟨hcs, _⟩ | ⟨a, len, cap, zs, hcs, _, hl, hm, hz, _, hcell, hwf⟩
  · injection hcs with hcs _
    exact ⟨none, 0, 0, [], hcs, RI.nil _ _, by omega, fun y hy => by cases hy⟩
  · injection hcs with hcs _
    simp only [if_true] at hz
    refine ⟨some a, len, cap, zs.take len, hcs, ⟨by rw [List.length_take]; omega, fun hn => ?_⟩, by unfold maxLen at hm; omega, fun y hy => inI_of_wf (hwf y (List.mem_of_mem_take hy))⟩
    have h0 := hcell 0 (by omega)
    obtain ⟨b, off, spot⟩ := a
    have hspot : spot = none := by simpa [Addr.add] using World.cell?_spot h0
    subst hspot
    refine ⟨b, off, rfl, ?_, fun j hj => ?_⟩
    · have := World.block_lt_of_cell? W _ h0
      simpa [Addr.add] using this
    · have := hcell j (by omega)
      rw [add_plain] at this
      rw [this]
      simp [List.getD, hj]

set_option maxRecDepth 100000 in
/-- A diagram that comes in. -/
theorem open_diag {base : Nat} {v : Value} {d : DataW H} {p : List MemPlace} (hv : Value.okWide Tryd.prog W .any base 35 v) (h : DataW.Trod enc Tryd.prog W 0 (fun _ => true) true 35 v d p) :
    ∃ A ns cs B nm cm lp signs mate, v = dval A ns cs B nm cm lp ∧ RI W A ns signs ∧ RI W B nm mate ∧ ns ≤ 9223372036854775807 ∧ nm ≤ 9223372036854775807 ∧ (∀ y ∈ signs, inI y) ∧ (∀ y ∈ mate, inI y) ∧ inI lp := by
  obtain ⟨c0, c1, c2, y0, y1, y2, m, rfl, _, _, hy0, hy1, hy2⟩ := open_agg3 Tryd.underlying35 (by kernel_rfl) Tryd.cellsD hv h
  obtain ⟨A, ns, cs, signs, rfl, r1, l1, q1⟩ := open_ri hy0
  obtain ⟨B, nm, cm, mate, rfl, r2, l2, q2⟩ := open_ri hy1
  obtain ⟨x, e0, _, wx⟩ := DataW.trod_int Tryd.underlying3 hy2
  simp at e0
  subst e0
  exact ⟨A, ns, cs, B, nm, cm, x, signs, mate, rfl, r1, r2, l1, l2, q1, q2, inI_of_wf wx⟩

set_option maxRecDepth 100000 in
theorem trodAll_keep {W' : World} (hb : Below W.heap.size W W') : ∀ {ts : List TypeId} {vs : List Value} {ds : List (DataW H)} {ps : List MemPlace}, (∀ t ∈ ts, Tryd.prog.readableRec t = true ∧ t < Tryd.prog.types.size) →
    (∀ x ∈ ps, x.block < W.heap.size) → DataW.TrodAll enc Tryd.prog W 0 (fun _ => true) true ts vs ds ps → DataW.TrodAll enc Tryd.prog W' 0 (fun b => decide (b < W.heap.size)) true ts vs ds ps
  | [], [], [], _, _, _, h => h
  | t :: ts, v :: vs, d :: ds, ps, hr, hlt, h => by
    obtain ⟨p, q, h1, h2, rfl⟩ := h
    obtain ⟨r1, r2⟩ := hr t (by simp)
    exact ⟨p, q, Below.trod Tryd.laidOut r1 r2 h1 hb (fun x hx => hlt x (by simp [hx])), trodAll_keep hb (fun t ht => hr t (by simp [ht])) (fun x hx => hlt x (by simp [hx])) h2, rfl⟩
  | [], _ :: _, _, _, _, _, h => h.elim
  | [], [], _ :: _, _, _, _, h => h.elim
  | _ :: _, [], _, _, _, _, h => h.elim
  | _ :: _, _ :: _, [], _, _, _, h => h.elim

set_option maxRecDepth 100000 in
/-- A law that answers true and leaves all below as it was meets its specification. -/
theorem law_post {f : Func} {s : ChangeSpec} {args : Array Value} {ds gs : List (DataW H)} {before : List MemPlace} {W' : World}
    (hres : f.resultTypes = #[4]) (hvars : s.vars = []) (hpar : ∀ t ∈ f.params.toList, Tryd.prog.readableRec t = true ∧ t < Tryd.prog.types.size)
    (hspec : (s.fn H (ds ++ gs)).results = [.lit (.bool true)] ∧ (s.fn H (ds ++ gs)).args = ds ∧ (s.fn H (ds ++ gs)).vars = [])
    (hW : DataW.Whole enc Tryd.prog f.params.toList s.vars false W args.toList ds gs before) (hb : Below W.heap.size W W') :
    s.post enc Tryd.prog f false true false false W args (.bool true) W' := by
  have hlt := fun x hx => hW.lt x hx
  obtain ⟨p, q, hA, hV, e, _⟩ := id hW
  rw [hvars] at hV
  obtain ⟨rfl, rfl⟩ := trodVars_none hV
  rw [List.append_nil] at e
  subst e
  refine ⟨ds, [], before, [], before, [], hW, ?_, ?_, ?_, hb.frame _, fun h => by cases h⟩
  · rw [hspec.1, hres]
    exact trodAll_mk1 (shut_bool Tryd.underlying4 true)
  · rw [hspec.2.1]
    exact trodAll_keep hb hpar hlt hA
  · rw [hvars, hspec.2.2]
    rfl
end

end Go.Proofs.YtambhopkacgddaaDoor
