import Derived.Test.YtambhopkacgddaaE07
import Derived.Test.YtambhopkacgddaaE06
import Derived.Test.YtambhopkacgddaaE05
import Derived.Test.YtambhopkacgddaaE01
import Derived.Deep.LoopGhost
import Derived.Test.YtambhopkacgddaaE03
import Derived.ProofKit
import Derived.Lib.SmallJoins
/- Walk: dowker.Diagram and dowker.Signs. -/
namespace Go.Proofs.Ytambhopkacgddaa
open Go.RowKit

/-- The error, the signs and the mates of the diagram of a code. -/
def dgS (code : List Int) : Option (List Int) := srch code (code.length - 1) [1]
def dgE (code : List Int) : Int := if dvB code = false then 3 else if 14 < code.length then 5 else match dgS code with
  | none => 7
  | some _ => 0
def dgL (code : List Int) : List Int := if dvB code = false then [] else if 14 < code.length then [] else match dgS code with
  | none => []
  | some l => l
def dgM (code : List Int) : List Int := if dvB code = false then [] else if 14 < code.length then [] else match dgS code with
  | none => []
  | some l => mkM code l
def DgPost (code : List Int) (w : World) (e : Ending) (w' : World) : Prop :=
  ∃ A ns cs B nm cm, e = .returned (.tuple #[dval A ns cs B nm cm 0, .int .i64 (dgE code)]) ∧ RI w' A ns (dgL code) ∧ RI w' B nm (dgM code) ∧ Below w.heap.size w w'
def SgPost (code : List Int) (w : World) (e : Ending) (w' : World) : Prop :=
  ∃ A ns cs, e = .returned (.tuple #[.slice A ns cs, .int .i64 (dgE code)]) ∧ RI w' A ns (dgL code) ∧ Below w.heap.size w w'

theorem bx_new (w : World) : BxAt (w.alloc (.cells #[.slice none 0 0, .slice none 0 0, .int .i64 0] 24)) w.heap.size := bx_pre (heap_alloc_new w _) (Below.refl _ _)
theorem set3w_bx {w : World} {g : Nat} (h : BxAt w g) (a b c : Value) : (set3w w g a b c).cell? ⟨g, 0, none⟩ = some a ∧ (set3w w g a b c).cell? ⟨g, 1, none⟩ = some b ∧ (set3w w g a b c).cell? ⟨g, 2, none⟩ = some c := set3w_cells w g a b c h.1.1 h.1.2.1 h.1.2.2.1
theorem RI.set3w {w : World} {A : Option Addr} {n g : Nat} {xs : List Int} (h : RI w A n xs) (hg : ∀ b, b < w.heap.size → (∃ o, A = some ⟨b, o, none⟩) → b ≠ g) (x y z : Value) : RI (Go.Proofs.Ytambhopkacgddaa.set3w w g x y z) A n xs := by
  refine ⟨h.1, fun hn => ?_⟩
  obtain ⟨b, off, rfl, hb, hc⟩ := h.2 hn
  have := hg b hb ⟨off, rfl⟩
  exact ⟨b, off, rfl, by simp [World.setCell]; exact hb, fun j hj => by
    rw [World.cell?_setCell_other _ _ _ _ (by simp <;> omega), World.cell?_setCell_other _ _ _ _ (by simp <;> omega), World.cell?_setCell_other _ _ _ _ (by simp <;> omega)]; exact hc j hj⟩

set_option maxHeartbeats 3200000 in
set_option maxRecDepth 100000 in
theorem diagram_any (C : Option Addr) (n cc : Nat) (code : List Int) (w : World) (hC : RI w C n code) (hn : n ≤ 9223372036854775807) (hI : inL code) :
    Calls Try.prog 19 #[.slice C n cc] w (DgPost code w) := by
  have hl := hC.1
  have hb0 := below_alloc w (.cells #[.slice none 0 0, .slice none 0 0, .int .i64 0] 24)
  have hx0 := bx_new w
  have hg : w.heap.size < (w.alloc (.cells #[.slice none 0 0, .slice none 0 0, .int .i64 0] 24)).heap.size := by simp
  have HC := Lib.hid (hC.keep hb0)
  have HI := Lib.hid hI
  cases hv : dvB code with
  | false =>
    have CV := Lib.hid (dvalid_r false C n cc code (w.alloc (.cells #[.slice none 0 0, .slice none 0 0, .int .i64 0] 24)) HC.out hn HI.out hv.symm)
    have HE : Hid (dgE code = 3 ∧ dgL code = [] ∧ dgM code = []) := Lib.hid (by simp [dgE, dgL, dgM, hv])
    have HX := Lib.hid hx0
    clear hC hI hv hl hx0
    go_enter Try.func19, Try.ntmps19
    go_wp2_with (go_at_call 16; ((with_reducible refine CV.out.mono ?_); rintro e w1 ⟨rfl, hb1⟩; have hx1 := HX.out.kp hb1; have r0 := hx1.1.1; have r1 := hx1.1.2.1; have r2 := hx1.1.2.2.1; have g0 := hx1.2 0; have g1 := hx1.2 1; have g2 := hx1.2 2))
    obtain ⟨k0, k1, k2⟩ := set3w_bx hx1 (.slice none 0 0) (.slice none 0 0) (.int .i64 0)
    obtain ⟨z1, z2, z3⟩ := HE.out
    have HF := Lib.hid (show DgPost code w (.returned (.tuple #[dval none 0 0 none 0 0 0, .int .i64 3])) (set3w w1 w.heap.size (.slice none 0 0) (.slice none 0 0) (.int .i64 0)) from ⟨none, 0, 0, none, 0, 0, by rw [z1], by rw [z2]; exact RI.nil _ _, by rw [z3]; exact RI.nil _ _, set3w_below (below_step hb0 hb1) (Nat.le_refl _) _ _ _⟩)
    exact bodyPost_ret (v := .tuple #[dval none 0 0 none 0 0 0, .int .i64 3]) (by simp [results, Try.results19, go_sem, k0, k1, k2]) rfl HF.out
  | true =>
    have hn64 : n ≤ 64 := by have := (dvB_iff code).1 hv; omega
    have CV := Lib.hid (dvalid_r true C n cc code (w.alloc (.cells #[.slice none 0 0, .slice none 0 0, .int .i64 0] 24)) HC.out hn HI.out hv.symm)
    have HX := Lib.hid hx0
    by_cases h14 : 14 < n
    · have HE : Hid (dgE code = 5 ∧ dgL code = [] ∧ dgM code = []) := Lib.hid (by simp [dgE, dgL, dgM, hv, hl, h14])
      have h14' : 14 < (n : Int) := by omega
      clear hC hI hv hl hx0
      go_enter Try.func19, Try.ntmps19
      go_wp2_with (go_at_call 16; ((with_reducible refine CV.out.mono ?_); rintro e w1 ⟨rfl, hb1⟩; have hx1 := HX.out.kp hb1; have r0 := hx1.1.1; have r1 := hx1.1.2.1; have r2 := hx1.1.2.2.1; have g0 := hx1.2 0; have g1 := hx1.2 1; have g2 := hx1.2 2))
      obtain ⟨k0, k1, k2⟩ := set3w_bx hx1 (.slice none 0 0) (.slice none 0 0) (.int .i64 0)
      obtain ⟨z1, z2, z3⟩ := HE.out
      have HF := Lib.hid (show DgPost code w (.returned (.tuple #[dval none 0 0 none 0 0 0, .int .i64 5])) (set3w w1 w.heap.size (.slice none 0 0) (.slice none 0 0) (.int .i64 0)) from ⟨none, 0, 0, none, 0, 0, by rw [z1], by rw [z2]; exact RI.nil _ _, by rw [z3]; exact RI.nil _ _, set3w_below (below_step hb0 hb1) (Nat.le_refl _) _ _ _⟩)
      exact bodyPost_ret (v := .tuple #[dval none 0 0 none 0 0 0, .int .i64 5]) (by simp [results, Try.results19, go_sem, k0, k1, k2]) rfl HF.out
    · have h14' : ¬ 14 < (n : Int) := by omega
      have CF : ∀ W, Below (w.alloc (.cells #[.slice none 0 0, .slice none 0 0, .int .i64 0] 24)).heap.size (w.alloc (.cells #[.slice none 0 0, .slice none 0 0, .int .i64 0] 24)) W → Hid (Calls Try.prog 35 #[.slice C n cc] W (FirstPost code n W (dgS code))) := fun W hb => by
        have := first_any C n cc code W (HC.out.keep hb) hn64 HI.out hv
        unfold dgS; rw [hl]; exact this
      cases hq : dgS code with
      | none =>
        have HE : Hid (dgE code = 7 ∧ dgL code = [] ∧ dgM code = []) := Lib.hid (by simp [dgE, dgL, dgM, hv, hl, h14, hq])
        simp only [hq] at CF
        clear hC hI hv hl hx0 hq
        go_enter Try.func19, Try.ntmps19
        go_wp2_with (first
          | (go_at_call 16; ((with_reducible refine CV.out.mono ?_); rintro e w1 ⟨rfl, hb1⟩; have hx1 := HX.out.kp hb1))
          | (go_at_call 35; ((with_reducible refine (CF _ hb1).out.mono ?_); rintro e w2 ⟨hb2, rfl⟩; have hx2 := (hx1.kp hb2).al (.cells #[.slice none 0 0, .slice none 0 0, .int .i64 0] 24); have r0 := hx2.1.1; have r1 := hx2.1.2.1; have r2 := hx2.1.2.2.1; have g0 := hx2.2 0; have g1 := hx2.2 1; have g2 := hx2.2 2)))
        obtain ⟨k0, k1, k2⟩ := set3w_bx hx2 (.slice none 0 0) (.slice none 0 0) (.int .i64 0)
        obtain ⟨z1, z2, z3⟩ := HE.out
        have hb3 := below_step (below_step (below_step hb0 hb1) hb2) (below_alloc w2 (.cells #[.slice none 0 0, .slice none 0 0, .int .i64 0] 24))
        have HF := Lib.hid (show DgPost code w (.returned (.tuple #[dval none 0 0 none 0 0 0, .int .i64 7])) (set3w (w2.alloc (.cells #[.slice none 0 0, .slice none 0 0, .int .i64 0] 24)) w.heap.size (.slice none 0 0) (.slice none 0 0) (.int .i64 0)) from ⟨none, 0, 0, none, 0, 0, by rw [z1], by rw [z2]; exact RI.nil _ _, by rw [z3]; exact RI.nil _ _, set3w_below hb3 (Nat.le_refl _) _ _ _⟩)
        exact bodyPost_ret (v := .tuple #[dval none 0 0 none 0 0 0, .int .i64 7]) (by simp [results, Try.results19, go_sem, k0, k1, k2]) rfl HF.out
      | some l =>
        have HE : Hid (dgE code = 0 ∧ dgL code = l ∧ dgM code = mkM code l) := Lib.hid (by simp [dgE, dgL, dgM, hv, hl, h14, hq])
        simp only [hq] at CF
        clear hC hI hv hl hx0 hq
        go_enter Try.func19, Try.ntmps19
        go_wp2_with (first
          | (go_at_call 16; ((with_reducible refine CV.out.mono ?_); rintro e w1 ⟨rfl, hb1⟩; have hx1 := HX.out.kp hb1))
          | (go_at_call 35; ((with_reducible refine (CF _ hb1).out.mono ?_); rintro e w2 ⟨hb2, gS, gM, rfl, hS, hM, hgS, hgM⟩; have hx2 := (hx1.kp hb2).al (.cells #[.slice (some ⟨gS, 0, none⟩) n n, .slice (some ⟨gM, 0, none⟩) (4 * n) (4 * n), .int .i64 0] 24); have r0 := hx2.1.1; have r1 := hx2.1.2.1; have r2 := hx2.1.2.2.1; have g0 := hx2.2 0; have g1 := hx2.2 1; have g2 := hx2.2 2)))
        obtain ⟨k0, k1, k2⟩ := set3w_bx hx2 (.slice (some ⟨gS, 0, none⟩) n n) (.slice (some ⟨gM, 0, none⟩) (4 * n) (4 * n)) (.int .i64 0)
        obtain ⟨z1, z2, z3⟩ := HE.out
        have hsz := hb1.size
        have hb3 := below_step (below_step (below_step hb0 hb1) hb2) (below_alloc w2 (.cells #[.slice (some ⟨gS, 0, none⟩) n n, .slice (some ⟨gM, 0, none⟩) (4 * n) (4 * n), .int .i64 0] 24))
        have hS3 := (hS.alloc (.cells #[.slice (some ⟨gS, 0, none⟩) n n, .slice (some ⟨gM, 0, none⟩) (4 * n) (4 * n), .int .i64 0] 24)).set3w (g := w.heap.size) (fun b _ ⟨o, e⟩ => by injection e with e; injection e with e1; omega) (.slice (some ⟨gS, 0, none⟩) n n) (.slice (some ⟨gM, 0, none⟩) (4 * n) (4 * n)) (.int .i64 0)
        have hM3 := (hM.alloc (.cells #[.slice (some ⟨gS, 0, none⟩) n n, .slice (some ⟨gM, 0, none⟩) (4 * n) (4 * n), .int .i64 0] 24)).set3w (g := w.heap.size) (fun b _ ⟨o, e⟩ => by injection e with e; injection e with e1; omega) (.slice (some ⟨gS, 0, none⟩) n n) (.slice (some ⟨gM, 0, none⟩) (4 * n) (4 * n)) (.int .i64 0)
        have HF := Lib.hid (show DgPost code w (.returned (.tuple #[dval (some ⟨gS, 0, none⟩) n n (some ⟨gM, 0, none⟩) (4 * n) (4 * n) 0, .int .i64 0])) (set3w (w2.alloc (.cells #[.slice (some ⟨gS, 0, none⟩) n n, .slice (some ⟨gM, 0, none⟩) (4 * n) (4 * n), .int .i64 0] 24)) w.heap.size (.slice (some ⟨gS, 0, none⟩) n n) (.slice (some ⟨gM, 0, none⟩) (4 * n) (4 * n)) (.int .i64 0)) from ⟨_, n, n, _, 4 * n, 4 * n, by rw [z1], by rw [z2]; exact hS3, by rw [z3]; exact hM3, set3w_below hb3 (Nat.le_refl _) _ _ _⟩)
        exact bodyPost_ret (v := .tuple #[dval (some ⟨gS, 0, none⟩) n n (some ⟨gM, 0, none⟩) (4 * n) (4 * n) 0, .int .i64 0]) (by simp [results, Try.results19, go_sem, k0, k1, k2]) rfl HF.out

set_option maxHeartbeats 1600000 in
theorem dsigns_any (C : Option Addr) (n cc : Nat) (code : List Int) (w : World) (hC : RI w C n code) (hn : n ≤ 9223372036854775807) (hI : inL code) :
    Calls Try.prog 18 #[.slice C n cc] w (SgPost code w) := by
  have CD := Lib.hid (diagram_any C n cc code w hC hn hI)
  clear hC hn hI
  go_enter Try.func18, Try.ntmps18
  go_wp2_with (go_at_call 19; ((with_reducible refine CD.out.mono ?_); rintro e w1 ⟨A, ns, cs, B, nm, cm, rfl, h1, h2, hb1⟩))
  go_ret2
  exact ⟨A, ns, cs, rfl, h1.alloc _, below_step hb1 (below_alloc _ _)⟩

end Go.Proofs.Ytambhopkacgddaa

/- The example of the chapter on Dowker codes, computed. -/
namespace Go.Proofs.Ytambhopkacgddaa
open Go.RowKit

def exC : List Int := [4, 6, 2]
def exS : List Int := [1, 1, 1]
def exM : List Int := [5, 8, 11, 6, 9, 0, 3, 10, 1, 4, 7, 2]
theorem ex_inL : inL exC := by
  intro j
  by_cases h : j < 3
  · match j, h with
    | 0, _ => decide
    | 1, _ => decide
    | 2, _ => decide
  · have : exC.getD j 0 = 0 := by simp [List.getD, exC, show 3 ≤ j by omega]
    rw [this]; decide
theorem ex_dv : dvB exC = true := by decide +kernel
theorem ex_mk : mkM exC exS = exM := by decide +kernel
theorem ex_lab : IsLab (matesOf exM) 12 3 (fun _ => 0) := by
  refine ⟨fun c hc => ⟨Nat.zero_le _, ?_⟩, fun _ _ => rfl⟩
  have h0 : Conn (matesOf exM) 12 0 1 := Conn.step 0 (by omega) (Conn.refl 0)
  have h1 : Conn (matesOf exM) 12 0 2 := Conn.step 1 (by omega) (Conn.refl 0)
  match c, hc with
  | 0, _ => exact .refl _
  | 1, _ => exact h0.symm
  | 2, _ => exact h1.symm
theorem ex_sph : sphM exM 3 = true := by
  show sphB (ufLab (matesOf exM) 12) (ff (matesOf exM)) (4 * 3) 3 = true
  rw [sphB_congr (G := fun _ => 0) fun c hc => (ufLab_isLab (matesOf exM) 12 3).unique ex_lab c hc]
  decide +kernel
theorem ex_valid : validB exS exM 0 = true := by
  unfold validB
  rw [show exS.length = 3 from rfl, ex_sph]
  decide +kernel
theorem ex_strands : strandsM exS exM 0 = [[1, 10, 5, 2, 9, 6]] := by
  unfold strandsM; rw [if_pos ex_valid]; decide +kernel
theorem ex_dgS : dgS exC = some exS := by
  have h0 : srch exC 0 exS = some exS := by
    show (if validB exS (mkM exC exS) 0 = true then some exS else none) = _
    rw [ex_mk, ex_valid]; rfl
  have h1 : srch exC 1 [1, 1] = some exS := by
    show (match srch exC 0 exS with | some l => some l | none => _) = _
    rw [h0]
  show (match srch exC 1 [1, 1] with | some l => some l | none => _) = _
  rw [h1]
theorem ex_dg : dgE exC = 0 ∧ dgL exC = exS ∧ dgM exC = exM := by
  have h14 : ¬ 14 < exC.length := by decide
  have hf : ¬ (true = false) := by decide
  refine ⟨?_, ?_, ?_⟩
  · unfold dgE; rw [ex_dv, if_neg hf, if_neg h14, ex_dgS]
  · unfold dgL; rw [ex_dv, if_neg hf, if_neg h14, ex_dgS]
  · unfold dgM; rw [ex_dv, if_neg hf, if_neg h14, ex_dgS]; exact ex_mk
theorem ex_of : ofE exS exM 0 = 0 ∧ ofL exS exM 0 = exC := by
  have hf : ¬ (true = false) := by decide
  have h0 : ¬ exS.length = 0 := by decide
  have h1 : ¬ 1 < compM exS exM 0 := by unfold compM; rw [if_pos ex_valid, ex_strands]; decide
  refine ⟨?_, ?_⟩
  · unfold ofE; rw [ex_valid, if_neg hf, if_neg h0, if_neg h1]
  · unfold ofL; rw [ex_valid, if_neg hf, if_neg h0, if_neg h1, ex_strands]; decide +kernel

end Go.Proofs.Ytambhopkacgddaa

/- Walk: awake of layer 4. -/
namespace Go.Proofs.Ytambhopkacgddaa
open Go.RowKit

theorem ri_lit (w : World) (xs : List Int) : RI (w.alloc (.cells (ints xs).toArray 3)) (some ⟨w.heap.size, 0, none⟩) xs.length xs :=
  ⟨rfl, fun _ => ⟨w.heap.size, 0, rfl, by simp, fun j hj => by
    rw [World.cell?_alloc_at _ _ _ _ rfl, Nat.zero_add]
    simp [ints, List.getD, hj]⟩⟩
theorem ex_signs (A : Option Addr) (c : Nat) (W : World) (h : RI W A 3 exC) : Calls Try.prog 18 #[.slice A 3 c] W fun e w' => ∃ A' cs, e = .returned (.tuple #[.slice A' 3 cs, .int .i64 0]) ∧ RI w' A' 3 exS ∧ Below W.heap.size W w' := by
  refine (dsigns_any A 3 c exC W h (by omega) ex_inL).mono ?_
  rintro e w' ⟨A', ns, cs, rfl, h1, hb⟩
  rw [ex_dg.2.1] at h1
  obtain rfl : ns = 3 := h1.1.symm
  exact ⟨A', cs, by rw [ex_dg.1], h1, hb⟩
theorem ex_diagram (A : Option Addr) (c : Nat) (W : World) (h : RI W A 3 exC) : Calls Try.prog 19 #[.slice A 3 c] W fun e w' => ∃ A' cs B cm, e = .returned (.tuple #[dval A' 3 cs B 12 cm 0, .int .i64 0]) ∧ DV w' A' 3 B 12 exS exM ∧ Below W.heap.size W w' := by
  refine (diagram_any A 3 c exC W h (by omega) ex_inL).mono ?_
  rintro e w' ⟨A', ns, cs, B, nm, cm, rfl, h1, h2, hb⟩
  rw [ex_dg.2.1] at h1
  rw [ex_dg.2.2] at h2
  obtain rfl : ns = 3 := h1.1.symm
  obtain rfl : nm = 12 := h2.1.symm
  exact ⟨A', cs, B, cm, by rw [ex_dg.1], ⟨h1, h2, by omega, by omega, by decide⟩, hb⟩
theorem ex_dof (A B : Option Addr) (cs cm : Nat) (W : World) (h : DV W A 3 B 12 exS exM) : Calls Try.prog 11 #[dval A 3 cs B 12 cm 0] W fun e w' => ∃ A' c, e = .returned (.tuple #[.slice A' 3 c, .int .i64 0]) ∧ RI w' A' 3 exC ∧ Below W.heap.size W w' := by
  refine (dof_any A B 3 cs 12 cm 0 exS exM W h).mono ?_
  rintro e w' ⟨A', n, c, rfl, h1, hb⟩
  rw [ex_of.2] at h1
  obtain rfl : n = 3 := h1.1.symm
  exact ⟨A', c, by rw [ex_of.1], h1, hb⟩

set_option maxHeartbeats 3200000 in
set_option maxRecDepth 100000 in
theorem dawake_any (w : World) : Calls Try.prog 10 #[] w fun e w' => e = .returned (.bool true) ∧ Below w.heap.size w w' := by
  go_enter Try.func10, Try.ntmps10
  go_wp2_with fail
  refine (ex_signs _ _ _ (ri_lit w exC)).mono ?_
  rintro e w1 ⟨A1, c1, rfl, hA1, hb1⟩
  have hw1 := below_step (below_alloc w _) hb1
  clear hb1
  go_wp2_with fail
  refine (ex_diagram _ _ _ (ri_lit w1 exC)).mono ?_
  rintro e w2 ⟨A2, c2, B2, m2, rfl, hD2, hb2⟩
  have hb12 := below_step (below_alloc w1 _) hb2
  have hw2 := below_step hw1 hb12
  have hA2 := hA1.keep hb12
  clear hb2 hw1 hA1 hb12
  go_wp2_with fail
  refine (ex_dof _ _ _ _ _ (hD2.keep (below_alloc _ _))).mono ?_
  rintro e w3 ⟨A3, c3, rfl, hA3, hb3⟩
  have hb23 := below_step (below_alloc w2 _) hb3
  have hw3 := below_step hw2 hb23
  have hA23 := hA2.keep hb23
  clear hb3 hw2 hA2 hb23 hD2
  go_wp2_with fail
  refine (ints_r true _ _ 3 _ 3 _ exS exS _ (hA23.alloc _) (ri_lit w3 exS) (by omega) (by omega) rfl).mono ?_
  rintro e w4 ⟨rfl, hb4⟩
  have hb34 := below_step (below_alloc w3 _) hb4
  have hw4 := below_step hw3 hb34
  have hA34 := hA3.keep hb34
  clear hb4 hw3 hA3 hb34 hA23
  go_wp2_with fail
  refine (ints_r true _ _ 3 _ 3 _ exC exC _ (hA34.alloc _) (ri_lit w4 exC) (by omega) (by omega) rfl).mono ?_
  rintro e w5 ⟨rfl, hb5⟩
  have hw5 := below_step hw4 (below_step (below_alloc w4 _) hb5)
  clear hb5 hw4
  go_wp2
  go_ret
  exact ⟨rfl, hw5⟩

end Go.Proofs.Ytambhopkacgddaa

/- Walk: the reference's Valid of a code. -/
namespace Go.Proofs.Ytambhopkacgddaa
open Go.RowKit

set_option maxHeartbeats 3200000 in
set_option maxRecDepth 100000 in
theorem rdvalid_r (r : Bool) (A : Option Addr) (n c : Nat) (code : List Int) (w : World) (hs : RI w A n code) (hn : n ≤ 9223372036854775807) (hI : inL code) (hr : r = dvB code) :
    Calls Try.prog 17 #[.slice A n c] w fun e w' => e = .returned (.bool r) ∧ w = w' := by
  have hl := hs.1
  by_cases h0 : 1 ≤ n ∧ n ≤ 64
  · obtain ⟨h1, h64⟩ := h0
    obtain ⟨b, off, rfl, hb, hc⟩ := hs.2 (by omega)
    have HD := Lib.hid (dv_cnt hl hI h1 h64)
    have HR := Lib.hid hr
    have HC := Lib.hid hc
    clear hr hI hl hs hc
    have hn1 : ¬ (n : Int) < 1 := by omega
    have hn0 : 0 < (n : Int) := by omega
    have hn2 : (n : Int) ≤ 64 := by omega
    go_enter Try.func17, Try.ntmps17
    go_wp2
    go_loop [4, 5, 6] (fun u _ _ => ∃ t : Nat, t ≤ n ∧ u = .int .i64 (2 * (t : Int) + 2) ∧ ∀ t' : Nat, t' < t → cntW code (2 * (t' : Int) + 2) n = 1) (fun u _ _ => (2 * (n : Int) + 2 - intOf u).toNat)
    case atStart => exact ⟨0, by omega, rfl, fun t' h => absurd h (by omega)⟩
    case round =>
      obtain ⟨t, ht, rfl, hok⟩ := hrel
      have HOK := Lib.hid hok
      clear hok
      by_cases hlt : t < n
      · obtain ⟨v, hv⟩ : ∃ v, 2 * (t : Int) + 2 = v := ⟨_, rfl⟩
        have hv1 : 2 ≤ v := by omega
        have hv2 : v ≤ 2 * (n : Int) := by omega
        rw [hv]
        have HV := Lib.hid hv
        have hneg : IntKind.i64.wrap (-v) = -v := IntWalk.i64_in _ (by omega)
        clear hv
        go_wp2
        go_loop [5, 6] (fun f i => ∃ k : Nat, k ≤ n ∧ i = .int .i64 k ∧ f = .int .i64 (cntW code v k : Nat)) (fun _ i => n - (intOf i).toNat)
        case atStart => exact ⟨0, by omega, rfl, rfl⟩
        case round =>
          obtain ⟨k, hk, rfl, rfl⟩ := hrel
          by_cases hkl : k < n
          · have hcell := HC.out k hkl
            have hsucc := cntW_succ code v k
            have hle := cntW_le code v k
            obtain ⟨y, hy⟩ : ∃ y, code.getD k 0 = y := ⟨_, rfl⟩
            rw [hy] at hcell hsucc
            obtain ⟨m, hm⟩ : ∃ m, cntW code v k = m := ⟨_, rfl⟩
            rw [hm] at hsucc hle ⊢
            have HSU := Lib.hid hsucc
            have hm0 : (0 : Int) ≤ (m : Int) := Int.natCast_nonneg _
            have hm1 : (m : Int) ≤ 64 := by omega
            have hk0 : (0 : Int) ≤ (k : Int) := Int.natCast_nonneg _
            have hk1 : (k : Int) < (n : Int) := by omega
            clear hsucc hle hy hm
            by_cases q1 : y = v
            · have e : Hid (((m : Nat) : Int) + 1 = ((cntW code v (k + 1) : Nat) : Int)) := by
                have := HSU.out; rw [if_pos (by simp [q1])] at this; rw [this]; show _ = _; omega
              subst q1
              go_wp2
              go_round
              case rel => exact ⟨k + 1, by omega, by go_num, by rw [e.out]⟩
              case measure => simp [intOf]; omega
            · have q1' : (y == v) = false := by simpa using q1
              by_cases q2 : y = -v
              · have e : Hid (((m : Nat) : Int) + 1 = ((cntW code v (k + 1) : Nat) : Int)) := by
                  have := HSU.out; rw [if_pos (by simp [q2])] at this; rw [this]; show _ = _; omega
                have q2' : (y == -v) = true := by simpa using q2
                clear q2 q1
                go_wp2
                go_round
                case rel => exact ⟨k + 1, by omega, by go_num, by rw [e.out]⟩
                case measure => simp [intOf]; omega
              · have e : Hid (m = cntW code v (k + 1)) := by
                  have := HSU.out; rw [if_neg (by simp [q1, q2])] at this; rw [this]; show _ = _; omega
                have q2' : (y == -v) = false := by simpa using q2
                clear q2 q1
                go_wp2
                go_round
                case rel => exact ⟨k + 1, by omega, by go_num, by rw [← e.out]⟩
                case measure => simp [intOf]; omega
          · obtain rfl : n = k := by omega
            have hle := cntW_le code v n
            have hcn : cntW code v n = 1 ∨ (cntW code v n : Int) ≠ 1 := by omega
            rcases hcn with q | q
            · have hall : ∀ t' : Nat, t' < t + 1 → cntW code (2 * (t' : Int) + 2) n = 1 := fun t' h => by
                by_cases e : t' = t
                · subst e; rw [HV.out]; exact q
                · exact HOK.out t' (by omega)
              have HALL := Lib.hid hall
              have hw2 : IntKind.i64.wrap (v + 2) = v + 2 := IntWalk.i64_in _ (by omega)
              have HW : Hid (v + 2 = 2 * ((t + 1 : Nat) : Int) + 2) := by have := HV.out; show _ = _; push_cast; omega
              rw [q]
              clear hall q hle hkl hk
              go_wp2
              go_round
              case rel => exact ⟨t + 1, by omega, by rw [HW.out], HALL.out⟩
              case measure => have := HW.out; have := HV.out; simp [intOf]; omega
            · have e : r = false := by
                rw [HR.out]
                cases qq : dvB code with
                | false => rfl
                | true => have := HD.out.1 qq t hlt; rw [HV.out] at this; omega
              have HE := Lib.hid e
              obtain ⟨m, hm⟩ : ∃ m : Int, (cntW code v n : Int) = m := ⟨_, rfl⟩
              rw [hm] at q ⊢
              have q' : (m == 1) = false := by simpa using q
              clear e q hm hle hkl hk
              go_wp2
              go_ret
              exact ⟨ret_bool HE.out.symm, rfl⟩
      · obtain rfl : t = n := by omega
        have e : r = true := by
          rw [HR.out]; exact HD.out.2 HOK.out
        have HE := Lib.hid e
        clear e hlt ht
        go_wp2
        go_ret
        exact ⟨ret_bool HE.out.symm, rfl⟩
  · have e : r = false := by
      rw [hr]
      cases q : dvB code with
      | false => rfl
      | true => have := (dvB_iff _).1 q; omega
    have HE := Lib.hid e
    clear e hr hI hs hl
    by_cases h1 : n < 1
    · have h1' : (n : Int) < 1 := by omega
      clear h0
      go_enter Try.func17, Try.ntmps17
      go_wp2
      go_ret
      exact ⟨ret_bool HE.out.symm, rfl⟩
    · have h1' : ¬ (n : Int) < 1 := by omega
      have h2' : 64 < (n : Int) := by omega
      clear h0
      go_enter Try.func17, Try.ntmps17
      go_wp2
      go_ret
      exact ⟨ret_bool HE.out.symm, rfl⟩

end Go.Proofs.Ytambhopkacgddaa

/- Opening a diagram that comes in, and shutting a law's call. -/
namespace Go.Proofs.Ytambhopkacgddaa
open Go.ChangeShapes Go.WideShapes Go.ChangeAt Go.RowKit Go.Joins

theorem Try.own : ownKnob Try.prog.godebug = none := by kernel_rfl
theorem Try.laidOut : laidOutB Try.prog = true := by kernel_rfl
theorem Try.cellsI : Try.prog.cellsOf 3 = 1 := by kernel_rfl
theorem Try.cellsD : Try.prog.cellsOf 24 = 3 := by kernel_rfl

def inI (x : Int) : Prop := -9223372036854775808 ≤ x ∧ x ≤ 9223372036854775807
theorem inI_of_wf {x : Int} (h : (Lit.int .i64 x).wf = true) : inI x := by
  have h1 : IntKind.i64.min = -9223372036854775808 := rfl
  have h2 : IntKind.i64.max = 9223372036854775807 := rfl
  simp only [Lit.wf, Bool.and_eq_true, decide_eq_true_eq] at h
  unfold inI; omega

section
variable {H : Type} {enc : TypeId × Value → H} {W : World}

set_option maxRecDepth 100000 in
/-- A slice of ints that comes in reads as a list. -/
theorem open_ri {fuel : Nat} {v : Value} {x : DataW H × List MemPlace} (h : DataW.trod enc Try.prog W 0 (fun _ => true) true fuel 22 [v] = some x) :
    ∃ A n c xs, v = .slice A n c ∧ RI W A n xs ∧ n ≤ 9223372036854775807 ∧ ∀ y ∈ xs, inI y := by
  rcases open_ints Try.underlying22 Try.underlying3 Try.cellsI h with ⟨hcs, _⟩ | ⟨a, len, cap, zs, hcs, _, hl, hm, hz, _, hcell, hwf⟩
  · injection hcs with hcs _
    exact ⟨none, 0, 0, [], hcs, RI.nil _ _, by omega, fun y hy => by cases hy⟩
  · injection hcs with hcs _
    simp only [if_true] at hz
    refine ⟨some a, len, cap, zs.take len, hcs, ⟨by rw [List.length_take]; omega, fun hn => ?_⟩, by unfold maxLen at hm; omega, fun y hy => inI_of_wf (hwf y (List.mem_of_mem_take hy))⟩
    have h0 := hcell 0 (by omega)
    obtain ⟨b, off, spot⟩ := a
    have hspot : spot = none := by simpa [Addr.add] using World.cell?_spot h0
    subst hspot
    refine ⟨b, off, rfl, ?_, fun j hj => ?_⟩
    · have := World.block_lt_of_cell? W _ h0
      simpa [Addr.add] using this
    · have := hcell j (by omega)
      rw [add_plain] at this
      rw [this]
      simp [List.getD, hj]

set_option maxRecDepth 100000 in
/-- A diagram that comes in. -/
theorem open_diag {base : Nat} {v : Value} {d : DataW H} {p : List MemPlace} (hv : Value.okWide Try.prog W .any base 24 v) (h : DataW.Trod enc Try.prog W 0 (fun _ => true) true 24 v d p) :
    ∃ A ns cs B nm cm lp signs mate, v = dval A ns cs B nm cm lp ∧ RI W A ns signs ∧ RI W B nm mate ∧ ns ≤ 9223372036854775807 ∧ nm ≤ 9223372036854775807 ∧ (∀ y ∈ signs, inI y) ∧ (∀ y ∈ mate, inI y) ∧ inI lp := by
  obtain ⟨c0, c1, c2, y0, y1, y2, m, rfl, _, _, hy0, hy1, hy2⟩ := open_agg3 Try.underlying24 (by kernel_rfl) Try.cellsD hv h
  obtain ⟨A, ns, cs, signs, rfl, r1, l1, q1⟩ := open_ri hy0
  obtain ⟨B, nm, cm, mate, rfl, r2, l2, q2⟩ := open_ri hy1
  obtain ⟨x, e0, _, wx⟩ := DataW.trod_int Try.underlying3 hy2
  simp at e0
  subst e0
  exact ⟨A, ns, cs, B, nm, cm, x, signs, mate, rfl, r1, r2, l1, l2, q1, q2, inI_of_wf wx⟩

set_option maxRecDepth 100000 in
theorem trodAll_keep {W' : World} (hb : Below W.heap.size W W') : ∀ {ts : List TypeId} {vs : List Value} {ds : List (DataW H)} {ps : List MemPlace}, (∀ t ∈ ts, Try.prog.readableRec t = true ∧ t < Try.prog.types.size) →
    (∀ x ∈ ps, x.block < W.heap.size) → DataW.TrodAll enc Try.prog W 0 (fun _ => true) true ts vs ds ps → DataW.TrodAll enc Try.prog W' 0 (fun b => decide (b < W.heap.size)) true ts vs ds ps
  | [], [], [], _, _, _, h => h
  | t :: ts, v :: vs, d :: ds, ps, hr, hlt, h => by
    obtain ⟨p, q, h1, h2, rfl⟩ := h
    obtain ⟨r1, r2⟩ := hr t (by simp)
    exact ⟨p, q, Below.trod Try.laidOut r1 r2 h1 hb (fun x hx => hlt x (by simp [hx])), trodAll_keep hb (fun t ht => hr t (by simp [ht])) (fun x hx => hlt x (by simp [hx])) h2, rfl⟩
  | [], _ :: _, _, _, _, _, h => h.elim
  | [], [], _ :: _, _, _, _, h => h.elim
  | _ :: _, [], _, _, _, _, h => h.elim
  | _ :: _, _ :: _, [], _, _, _, h => h.elim

set_option maxRecDepth 100000 in
/-- A law that answers true and leaves all below as it was meets its specification. -/
theorem law_post {f : Func} {s : ChangeSpec} {args : Array Value} {ds gs : List (DataW H)} {before : List MemPlace} {W' : World}
    (hres : f.resultTypes = #[4]) (hvars : s.vars = []) (hpar : ∀ t ∈ f.params.toList, Try.prog.readableRec t = true ∧ t < Try.prog.types.size)
    (hspec : (s.fn H (ds ++ gs)).results = [.lit (.bool true)] ∧ (s.fn H (ds ++ gs)).args = ds ∧ (s.fn H (ds ++ gs)).vars = [])
    (hW : DataW.Whole enc Try.prog f.params.toList s.vars false W args.toList ds gs before) (hb : Below W.heap.size W W') :
    s.post enc Try.prog f false true false false W args (.bool true) W' := by
  have hlt := fun x hx => hW.lt x hx
  obtain ⟨p, q, hA, hV, e, _⟩ := id hW
  rw [hvars] at hV
  obtain ⟨rfl, rfl⟩ := trodVars_none hV
  rw [List.append_nil] at e
  subst e
  refine ⟨ds, [], before, [], before, [], hW, ?_, ?_, ?_, hb.frame _, fun h => by cases h⟩
  · rw [hspec.1, hres]
    exact trodAll_mk1 (shut_bool Try.underlying4 true)
  · rw [hspec.2.1]
    exact trodAll_keep hb hpar hlt hA
  · rw [hvars, hspec.2.2]
    rfl
end

end Go.Proofs.Ytambhopkacgddaa

/- Walk: the law DowkerValid. -/
namespace Go.Proofs.Ytambhopkacgddaa
open Go.ChangeShapes Go.WideShapes Go.ChangeAt Go.RowKit Go.Joins

theorem inL_of {code : List Int} (h : ∀ z ∈ code, inI z) : inL code := fun j => by
  rcases Nat.lt_or_ge j code.length with hj | hj
  · have e : code.getD j 0 = code[j] := by simp [List.getD, hj]
    rw [e]; exact h _ (List.getElem_mem hj)
  · have e : code.getD j 0 = 0 := by simp [List.getD, hj]
    rw [e]; omega

set_option maxHeartbeats 1600000 in
theorem dkvalid_walk (C : Option Addr) (n cc : Nat) (code : List Int) (w : World) (hC : RI w C n code) (hn : n ≤ 9223372036854775807) (hI : ∀ z ∈ code, inI z) :
    Calls Try.prog 4 #[.slice C n cc] w fun e w' => e = .returned (.bool true) ∧ Below w.heap.size w w' := by
  have CA := Lib.hid (dawake_any w)
  by_cases h80 : 80 < n
  · have h80' : 80 < (n : Int) := by omega
    clear hC hI
    go_enter Try.func4, Try.ntmps4
    go_wp2_with ((with_reducible refine CA.out.mono ?_); rintro e w1 ⟨rfl, hb1⟩)
    go_ret
    exact ⟨rfl, hb1⟩
  · have h80' : ¬ 80 < (n : Int) := by omega
    have CV : ∀ W, Below w.heap.size w W → Hid (Calls Try.prog 16 #[.slice C n cc] W fun e w' => e = .returned (.bool (dvB code)) ∧ Below W.heap.size W w') := fun W hb => dvalid_any C n cc code W (hC.keep hb) hn (inL_of hI)
    have CR : ∀ W, Below w.heap.size w W → Hid (Calls Try.prog 17 #[.slice C n cc] W fun e w' => e = .returned (.bool (dvB code)) ∧ W = w') := fun W hb => rdvalid_r _ C n cc code W (hC.keep hb) hn (inL_of hI) rfl
    obtain ⟨r, hr⟩ : ∃ r, dvB code = r := ⟨_, rfl⟩
    simp only [hr] at CV CR
    clear hC hI hr
    go_enter Try.func4, Try.ntmps4
    go_wp2_with (first
      | (go_at_call 10; ((with_reducible refine CA.out.mono ?_); rintro e w1 ⟨rfl, hb1⟩))
      | (go_at_call 16; ((with_reducible refine (CV _ hb1).out.mono ?_); rintro e w2 ⟨rfl, hb2⟩; have hb12 := below_step hb1 hb2))
      | (go_at_call 17; ((with_reducible refine (CR _ hb12).out.mono ?_); rintro e w3 ⟨rfl, rfl⟩)))
    go_ret
    exact ⟨by simp, hb12⟩

end Go.Proofs.Ytambhopkacgddaa

/- Plain mathematics: the diagram of a code is one strand. -/
namespace Go.Proofs.Ytambhopkacgddaa
open Go.RowKit

theorem srch_out {code : List Int} {k : Nat} : ∀ {p l : List Int}, srch code k p = some l → l.length = p.length + k ∧ validB l (mkM code l) 0 = true ∧ (∀ j, j < p.length → l.getD j 0 = p.getD j 0) := by
  induction k with
  | zero =>
    intro p l h
    have h' : (if validB p (mkM code p) 0 = true then some p else none) = some l := h
    split at h'
    · rename_i q
      injection h' with h'
      subst h'
      exact ⟨rfl, q, fun _ _ => rfl⟩
    · cases h'
  | succ k ih =>
    intro p l h
    have hk : ∀ v, srch code k (p ++ [v]) = some l → l.length = p.length + (k + 1) ∧ validB l (mkM code l) 0 = true ∧ (∀ j, j < p.length → l.getD j 0 = p.getD j 0) := fun v hv => by
      obtain ⟨h1, h2, h3⟩ := ih hv
      rw [List.length_append] at h1
      refine ⟨by simp at h1; omega, h2, fun j hj => ?_⟩
      rw [h3 j (by rw [List.length_append]; omega), List.getD, List.getD, List.getElem?_append_left hj]
    have h' : (match srch code k (p ++ [1]) with | some l => some l | none => srch code k (p ++ [-1])) = some l := h
    cases q : srch code k (p ++ [1]) with
    | some l' => rw [q] at h'; injection h' with h'; subst h'; exact hk 1 q
    | none => rw [q] at h'; exact hk (-1) h'

theorem pos_ex {code : List Int} (h : dvB code = true) {n p : Nat} (hn : code.length = n) (hp : p < 2 * n) : ∃ i, i < n ∧ (p = ovN code i ∨ p = unN code i) := by
  rcases (show p % 2 = 0 ∨ p % 2 = 1 by omega) with e | e
  · refine ⟨p / 2, by omega, ?_⟩
    unfold ovN unN
    split <;> omega
  · obtain ⟨i, hi, q⟩ := (dhalf_perm h).hit (by rw [hn]; omega : p / 2 < code.length)
    refine ⟨i, by omega, ?_⟩
    unfold ovN unN
    rw [q]
    split <;> omega
theorem sg_cases {s : List Int} (hs : sgnsB s = true) {i : Nat} (hi : i < s.length) : s.getD i 0 = 1 ∨ s.getD i 0 = -1 := by
  have := (sgnsB_iff s).1 hs i hi
  unfold sgB at this
  simpa using this
theorem slot_out {s : List Int} (hs : sgnsB s = true) {i : Nat} (hi : i < s.length) : outB s (4 * i + soN (s.getD i 0)) = true ∧ outB s (trn (4 * i + soN (s.getD i 0)) 2) = false := by
  rcases sg_cases hs hi with e | e
  · rw [e, show soN 1 = 1 from rfl, show trn (4 * i + 1) 2 = 4 * i + 3 by unfold trn; omega]
    unfold outB
    rw [show (4 * i + 1) % 4 = 1 by omega, show (4 * i + 1) / 4 = i by omega, show (4 * i + 3) % 4 = 3 by omega, show (4 * i + 3) / 4 = i by omega, e]
    exact ⟨rfl, rfl⟩
  · rw [e, show soN (-1) = 3 from rfl, show trn (4 * i + 3) 2 = 4 * i + 1 by unfold trn; omega]
    unfold outB
    rw [show (4 * i + 1) % 4 = 1 by omega, show (4 * i + 1) / 4 = i by omega, show (4 * i + 3) % 4 = 3 by omega, show (4 * i + 3) / 4 = i by omega, e]
    exact ⟨rfl, rfl⟩
theorem two_out (s : List Int) (i : Nat) : outB s (4 * i + 2) = true ∧ outB s (trn (4 * i + 2) 2) = false := by
  unfold outB
  rw [show (4 * i + 2) % 4 = 2 by omega, show trn (4 * i + 2) 2 % 4 = 0 by unfold trn; omega]
  exact ⟨rfl, rfl⟩

section
variable {code s : List Int} {n : Nat}
theorem ex_out (h : dvB code = true) (hn : code.length = n) (hs : sgnsB s = true) (hl : s.length = n) {p : Nat} (hp : p < 2 * n) : outB s (exN code s n p) = true ∧ outB s (trn (exN code s n p) 2) = false ∧ exN code s n p < 4 * n := by
  obtain ⟨i, hi, e | e⟩ := pos_ex h hn hp
  · have := (exN_at s h (k := n) (i := i) hi (by omega)).1
    rw [e, this]
    have h2 := slot_out hs (i := i) (by omega)
    have := soN_cases (s.getD i 0)
    exact ⟨h2.1, h2.2, by omega⟩
  · have := (exN_at s h (k := n) (i := i) hi (by omega)).2
    rw [e, this]
    have h2 := two_out s i
    exact ⟨h2.1, h2.2, by omega⟩
theorem ex_inj (h : dvB code = true) (hn : code.length = n) {p q : Nat} (hp : p < 2 * n) (hq : q < 2 * n) (e : exN code s n p = exN code s n q) : p = q := by
  obtain ⟨i, hi, ei⟩ := pos_ex h hn hp
  obtain ⟨j, hj, ej⟩ := pos_ex h hn hq
  have a := exN_at s h (k := n) (i := i) hi (by omega)
  have b := exN_at s h (k := n) (i := j) hj (by omega)
  have ca := soN_cases (s.getD i 0)
  have cb := soN_cases (s.getD j 0)
  have hij : i = j := by
    rcases ei with ei | ei <;> rcases ej with ej | ej <;> rw [ei, ej] at e <;> simp only [a.1, a.2, b.1, b.2] at e <;> omega
  subst hij
  rcases ei with ei | ei <;> rcases ej with ej | ej
  · omega
  · rw [ei, ej, a.1, a.2] at e; omega
  · rw [ei, ej, a.1, a.2] at e; omega
  · omega
theorem ex_all (h : dvB code = true) (hn : code.length = n) (_hs : sgnsB s = true) (hl : s.length = n) {x : Nat} (hx : x < 4 * n) (ho : outB s x = true) : ∃ p, p < 2 * n ∧ exN code s n p = x := by
  have a := exN_at s h (k := n) (i := x / 4) (by omega) (by omega)
  obtain ⟨b1, b2, _⟩ := ov_lt h (i := x / 4) (by omega)
  rw [hn] at b1 b2
  have hr : x % 4 = 0 ∨ x % 4 = 1 ∨ x % 4 = 2 ∨ x % 4 = 3 := by omega
  unfold outB at ho
  rcases hr with e | e | e | e
  · rw [e] at ho; simp at ho
  · rw [e] at ho
    have h1 : s.getD (x / 4) 0 = 1 := by simpa using ho
    refine ⟨_, b1, ?_⟩
    rw [a.1, h1]
    show 4 * (x / 4) + 1 = x
    omega
  · exact ⟨_, b2, by rw [a.2]; omega⟩
  · rw [e] at ho
    have h1 : s.getD (x / 4) 0 = -1 := by simpa using ho
    refine ⟨_, b1, ?_⟩
    rw [a.1, h1]
    show 4 * (x / 4) + 3 = x
    omega
/-- A passage's way out is mated with the next one's way in. -/
theorem jn_at {E : Nat → Nat} {L : Nat} {M : Nat → Nat} (hi : ∀ p q, p < L → q < L → E p = E q → p = q) (ho : ∀ p q, p < L → q < L → E p ≠ trn (E q) 2) (hL : 0 < L) (K : Nat) (hK : K ≤ L) {k : Nat} (hk : k < K) : jnN E L K M (E k) = trn (E ((k + 1) % L)) 2 := by
  induction K with
  | zero => omega
  | succ K ih =>
    show upd (upd _ _ _) _ _ (E k) = _
    rw [upd_other _ _ _ _ (ho k _ (by omega) (Nat.mod_lt _ hL))]
    by_cases e : k = K
    · subst e; rw [upd_same]
    · rw [upd_other _ _ _ _ (fun q => e (hi k K (by omega) (by omega) q))]
      exact ih (by omega) (by omega)
theorem mkM_step (h : dvB code = true) (hn : code.length = n) (hs : sgnsB s = true) (hl : s.length = n) {k : Nat} (hk : k < 2 * n) : fs (matesOf (mkM code s)) (exN code s n k) = exN code s n ((k + 1) % (2 * n)) := by
  have hlt := (ex_out h hn hs hl hk).2.2
  have hj := jn_at (E := exN code s n) (L := 2 * n) (M := fun _ => 0) (fun p q hp hq e => ex_inj h hn hp hq e)
    (fun p q hp hq e => by
      have h1 := (ex_out h hn hs hl hp).1
      rw [e, (ex_out h hn hs hl hq).2.1] at h1
      cases h1) (by omega) (2 * n) (Nat.le_refl _) hk
  have hm : matesOf (mkM code s) (exN code s n k) = trn (exN code s n ((k + 1) % (2 * n))) 2 := by
    unfold matesOf mt mkM
    rw [hn, lstN_get hlt, hj]
    rfl
  show trn (matesOf (mkM code s) (exN code s n k)) 2 = _
  rw [hm, trn_two]
theorem mk_it (h : dvB code = true) (hn : code.length = n) (hs : sgnsB s = true) (hl : s.length = n) (k : Nat) (hk : k < 2 * n) : it (fs (matesOf (mkM code s))) k (exN code s n 0) = exN code s n k := by
  induction k with
  | zero => rfl
  | succ k ih =>
    show fs _ (it _ k _) = _
    rw [ih (by omega), mkM_step h hn hs hl (by omega), Nat.mod_eq_of_lt hk]
theorem mk_one {lp : Int} (h : dvB code = true) (hn : code.length = n) (hl : s.length = n) (hv : validB s (mkM code s) lp = true) : (strandsM s (mkM code s) lp).length = 1 := by
  have F := bk_facts hv
  have hs := F.sg
  have hlm := F.lm
  rw [hl] at hlm
  have hpos : 0 < n := by have := (dvB_iff code).1 h; omega
  unfold strandsM
  rw [if_pos hv, cycL_len]
  have hx0 := ex_out h hn hs hl (p := 0) (by omega)
  have hall : ∀ a, a ∈ reprs (fs (matesOf (mkM code s))) (mkM code s).length (outB s) → Orb (fs (matesOf (mkM code s))) a (exN code s n 0) := fun a ha => by
    obtain ⟨a1, a2⟩ := reprs_mem.1 ha
    have ao := ((F.p.sel_iff _ a1).1 a2).1
    obtain ⟨p, hp, e⟩ := ex_all h hn hs hl (by omega) ao
    have o : Orb (fs (matesOf (mkM code s))) (exN code s n 0) a := ⟨p, by rw [mk_it h hn hs hl p hp, e]⟩
    exact F.p.orb_symm (by omega) o
  obtain ⟨r0, hr0, _⟩ := reprs_ex F.p (by omega : exN code s n 0 < (mkM code s).length) hx0.1
  have hnd : (reprs (fs (matesOf (mkM code s))) (mkM code s).length (outB s)).Nodup := List.Pairwise.filter _ List.nodup_range
  have huq : ∀ a b, a ∈ reprs (fs (matesOf (mkM code s))) (mkM code s).length (outB s) → b ∈ reprs (fs (matesOf (mkM code s))) (mkM code s).length (outB s) → a = b := fun a b ha hb => reprs_uniq F.p ha hb (hall a ha) (hall b hb)
  generalize reprs (fs (matesOf (mkM code s))) (mkM code s).length (outB s) = R at hnd huq hr0
  match R, hnd, huq, hr0 with
  | [], _, _, hr0 => cases hr0
  | [_], _, _, _ => rfl
  | a :: b :: t, hnd, huq, _ =>
    have := huq a b (by simp) (by simp)
    rw [this] at hnd
    simp at hnd
end

end Go.Proofs.Ytambhopkacgddaa

/- Walk: the law DowkerPlanar. -/
namespace Go.Proofs.Ytambhopkacgddaa
open Go.ChangeShapes Go.WideShapes Go.ChangeAt Go.RowKit Go.Joins

structure DgOk (code l : List Int) (n : Nat) : Prop where
  dv : dvB code = true
  len : l.length = n
  n14 : n ≤ 14
  pos : 1 ≤ n
  L : dgL code = l
  M : dgM code = mkM code l
  E : dgE code = 0
  valid : validB l (mkM code l) 0 = true
  first : l.getD 0 0 = 1
  comp : compM l (mkM code l) 0 = 1
  again : ofE l (mkM code l) 0 = 0 ∧ (ofL l (mkM code l) 0).length = n ∧ dvB (ofL l (mkM code l) 0) = true
theorem dg_ok {code : List Int} {n : Nat} (hn : code.length = n) (h : dgE code = 0) : ∃ l, DgOk code l n := by
  cases hv : dvB code with
  | false => unfold dgE at h; rw [hv] at h; simp at h
  | true =>
    by_cases h14 : 14 < code.length
    · unfold dgE at h; rw [hv, if_neg (by decide), if_pos h14] at h; cases h
    · cases hs : dgS code with
      | none => unfold dgE at h; rw [hv, if_neg (by decide), if_neg h14, hs] at h; cases h
      | some l =>
        obtain ⟨h1, h2, h3⟩ := srch_out (show srch code (code.length - 1) [1] = some l from hs)
        have hpos : 1 ≤ code.length := ((dvB_iff code).1 hv).1
        have hl : l.length = n := by rw [h1]; show 1 + (code.length - 1) = n; omega
        have hone := mk_one (lp := 0) hv hn hl h2
        have hcomp : compM l (mkM code l) 0 = 1 := by rw [compM_add h2, hone]; rfl
        obtain ⟨_, st, hst, hk⟩ := knot_one h2 (by omega) (by omega)
        have hoE : ofE l (mkM code l) 0 = 0 := by unfold ofE; rw [h2, if_neg (by decide), if_neg (by omega), if_neg (by omega)]
        have hoL : ofL l (mkM code l) 0 = cdF st l.length := by unfold ofL; rw [h2, if_neg (by decide), if_neg (by omega), if_neg (by omega), hst]; rfl
        refine ⟨l, hv, hl, by omega, by omega, ?_, ?_, h, h2, h3 0 (by decide), hcomp, hoE, ?_, ?_⟩
        · unfold dgL; rw [hv, if_neg (by decide), if_neg h14, hs]
        · unfold dgM; rw [hv, if_neg (by decide), if_neg h14, hs]
        · rw [hoL, cdF_length, hl]
        · rw [hoL]; exact hk.valid (by omega) (by omega)
theorem mkM_range (code s : List Int) (hv : validB s (mkM code s) 0 = true) (j : Nat) : -9223372036854775808 ≤ mt (mkM code s) j ∧ mt (mkM code s) j ≤ 9223372036854775807 := by
  have F := bk_facts hv
  rcases Nat.lt_or_ge j (mkM code s).length with hj | hj
  · have hm := matesOf_mates F.pr rfl j hj
    have hle := F.le
    have hlm := F.lm
    unfold mt
    rw [hm.1]
    omega
  · have e : mt (mkM code s) j = 0 := by unfold mt; simp [List.getD, hj]
    rw [e]; omega
theorem dg_call (C : Option Addr) (n cc : Nat) (code l : List Int) (W : World) (hC : RI W C n code) (hn : n ≤ 9223372036854775807) (hI : inL code) (h : DgOk code l n) :
    Calls Try.prog 19 #[.slice C n cc] W fun e w' => ∃ A cs B cm, e = .returned (.tuple #[dval A n cs B (4 * n) cm 0, .int .i64 0]) ∧ DV w' A n B (4 * n) l (mkM code l) ∧ Below W.heap.size W w' := by
  refine (diagram_any C n cc code W hC hn hI).mono ?_
  rintro e w' ⟨A, ns, cs, B, nm, cm, rfl, h1, h2, hb⟩
  rw [h.L] at h1
  rw [h.M] at h2
  obtain rfl : n = ns := h.len.symm.trans h1.1
  have e2 : (mkM code l).length = 4 * n := by rw [(bk_facts h.valid).lm, h.len]
  obtain rfl : 4 * n = nm := e2.symm.trans h2.1
  have := h.n14
  exact ⟨A, cs, B, cm, by rw [h.E], ⟨h1, h2, by omega, by omega, fun j _ => mkM_range code l h.valid j⟩, hb⟩
theorem dg_no (C : Option Addr) (n cc : Nat) (code : List Int) (W : World) (hC : RI W C n code) (hn : n ≤ 9223372036854775807) (hI : inL code) (ez : Int) (h : dgE code = ez) :
    Calls Try.prog 19 #[.slice C n cc] W fun e w' => ∃ A ns cs B nm cm, e = .returned (.tuple #[dval A ns cs B nm cm 0, .int .i64 ez]) ∧ Below W.heap.size W w' := by
  refine (diagram_any C n cc code W hC hn hI).mono ?_
  rintro e w' ⟨A, ns, cs, B, nm, cm, rfl, h1, h2, hb⟩
  exact ⟨A, ns, cs, B, nm, cm, by rw [h], hb⟩
theorem of_call (A B : Option Addr) (ns cs nm cm : Nat) (s m : List Int) (W : World) (h : DV W A ns B nm s m) (n : Nat) (hl : (ofL s m 0).length = n) (he : ofE s m 0 = 0) :
    Calls Try.prog 11 #[dval A ns cs B nm cm 0] W fun e w' => ∃ A' c, e = .returned (.tuple #[.slice A' n c, .int .i64 0]) ∧ RI w' A' n (ofL s m 0) ∧ Below W.heap.size W w' := by
  refine (dof_any A B ns cs nm cm 0 s m W h).mono ?_
  rintro e w' ⟨A', n', c, rfl, h1, hb⟩
  obtain rfl : n = n' := hl.symm.trans h1.1
  exact ⟨A', c, by rw [he], h1, hb⟩
theorem inL_dv {code : List Int} (h : dvB code = true) : inL code := fun j => by
  by_cases hj : j < code.length
  · obtain ⟨h1, h2, _⟩ := (okAt_iff code j).1 (((dvB_iff code).1 h).2.2 j hj)
    have := ((dvB_iff code).1 h).2.1
    unfold szI at h1 h2
    split at h1 <;> (try split at h1) <;> simp_all <;> omega
  · have e : code.getD j 0 = 0 := by simp [List.getD, show code.length ≤ j by omega]
    rw [e]; decide

set_option maxHeartbeats 3200000 in
set_option maxRecDepth 100000 in
theorem dkplanar_walk (C : Option Addr) (n cc : Nat) (code : List Int) (w : World) (hC : RI w C n code) (hn : n ≤ 9223372036854775807) (hI : ∀ z ∈ code, inI z) :
    Calls Try.prog 6 #[.slice C n cc] w fun e w' => e = .returned (.bool true) ∧ Below w.heap.size w w' := by
  have CA := Lib.hid (dawake_any w)
  by_cases h12 : 12 < n
  · have h12' : 12 < (n : Int) := by omega
    clear hC hI
    go_enter Try.func6, Try.ntmps6
    go_wp2_with ((with_reducible refine CA.out.mono ?_); rintro e w1 ⟨rfl, hb1⟩)
    go_ret
    exact ⟨rfl, hb1⟩
  · have h12' : ¬ 12 < (n : Int) := by omega
    by_cases hE : dgE code = 0
    · obtain ⟨l, hok⟩ := dg_ok hC.1 hE
      have CD : ∀ W, Below w.heap.size w W → Hid (Calls Try.prog 19 #[.slice C n cc] W fun e w' => ∃ A cs B cm, e = .returned (.tuple #[dval A n cs B (4 * n) cm 0, .int .i64 0]) ∧ DV w' A n B (4 * n) l (mkM code l) ∧ Below W.heap.size W w') := fun W hb =>
        dg_call C n cc code l W (hC.keep hb) hn (inL_of hI) hok
      have HOK := Lib.hid hok
      have hpos := hok.pos
      obtain ⟨m, hm⟩ : ∃ m, mkM code l = m := ⟨_, rfl⟩
      obtain ⟨a, ha⟩ : ∃ a, ofL l m 0 = a := ⟨_, rfl⟩
      have hvl := hok.valid
      have hco := hok.comp
      obtain ⟨ag1, ag2, ag3⟩ := hok.again
      rw [hm] at hvl hco ag1 ag2 ag3
      simp only [hm] at CD
      rw [ha] at ag2 ag3
      have CO : ∀ (W : World) (A B : Option Addr) (cs cm : Nat), DV W A n B (4 * n) l m → Hid (Calls Try.prog 11 #[dval A n cs B (4 * n) cm 0] W fun e w' => ∃ A' c, e = .returned (.tuple #[.slice A' n c, .int .i64 0]) ∧ RI w' A' n a ∧ Below W.heap.size W w') := fun W A B cs cm h => by
        have := of_call A B n cs (4 * n) cm l m W h n (by rw [ha]; exact ag2) ag1
        rw [ha] at this; exact this
      have CV : ∀ (W : World) (A B : Option Addr) (cs cm : Nat), DV W A n B (4 * n) l m → Hid (Calls Try.prog 23 #[dval A n cs B (4 * n) cm 0] W fun e w' => e = .returned (.bool true) ∧ Below W.heap.size W w') := fun W A B cs cm h => h.valid cs cm 0 true hvl
      have CC : ∀ (W : World) (A B : Option Addr) (cs cm : Nat), DV W A n B (4 * n) l m → Hid (Calls Try.prog 24 #[dval A n cs B (4 * n) cm 0] W fun e w' => e = .returned (.int .i64 1) ∧ Below W.heap.size W w') := fun W A B cs cm h => by
        have := components_any A B n cs (4 * n) cm 0 l m W h
        rw [hco] at this; exact this
      have CG : ∀ (W : World) (A : Option Addr) (c : Nat), RI W A n a → Hid (Calls Try.prog 16 #[.slice A n c] W fun e w' => e = .returned (.bool true) ∧ Below W.heap.size W w') := fun W A c h => dvalid_r true A n c a W h hn (inL_dv ag3) ag3.symm
      have HF := Lib.hid hok.first
      obtain ⟨nm, hnm⟩ : ∃ nm, 4 * n = nm := ⟨_, rfl⟩
      simp only [hnm] at CD CO CV CC
      clear hC hI hE hok hvl hco ag1 ag2 ag3 hm ha hnm
      have hn0 : (0 : Int) < (n : Int) := by omega
      go_enter Try.func6, Try.ntmps6
      go_wp2_with (first
        | (go_at_call 10; ((with_reducible refine CA.out.mono ?_); rintro e w1 ⟨rfl, hb1⟩))
        | (go_at_call 19; ((with_reducible refine (CD _ hb1).out.mono ?_); rintro e w2 ⟨A, cs, B, cm, rfl, hD2, hb2⟩; have hD3 := hD2.keep (below_alloc w2 (dbox A n cs B nm cm 0)); have hb3 := below_step (below_step hb1 hb2) (below_alloc w2 (dbox A n cs B nm cm 0)); obtain ⟨x0, x1, x2, xlt⟩ := DB.new w2 A n cs B nm cm 0))
        | (go_at_call 11; ((with_reducible refine (CO _ _ _ _ _ hD3).out.mono ?_); rintro e w4 ⟨A4, c4, rfl, hR4, hb4⟩; have hD4 := hD3.keep hb4; have hb04 := below_step hb3 hb4; have y0 := (hb4.cell (p := ⟨w2.heap.size, 0, none⟩) xlt).trans x0; have y1 := (hb4.cell (p := ⟨w2.heap.size, 1, none⟩) xlt).trans x1; have y2 := (hb4.cell (p := ⟨w2.heap.size, 2, none⟩) xlt).trans x2; have ylt := Nat.lt_of_lt_of_le xlt hb4.size))
        | (go_at_call 23; ((with_reducible refine (CV _ _ _ _ _ hD4).out.mono ?_); rintro e w5 ⟨rfl, hb5⟩; have hD5 := hD4.keep hb5; have hR5 := hR4.keep hb5; have hb05 := below_step hb04 hb5; have z0 := (hb5.cell (p := ⟨w2.heap.size, 0, none⟩) ylt).trans y0; have z1 := (hb5.cell (p := ⟨w2.heap.size, 1, none⟩) ylt).trans y1; have z2 := (hb5.cell (p := ⟨w2.heap.size, 2, none⟩) ylt).trans y2; have zlt := Nat.lt_of_lt_of_le ylt hb5.size))
        | (go_at_call 24; ((with_reducible refine (CC _ _ _ _ _ hD5).out.mono ?_); rintro e w6 ⟨rfl, hb6⟩; have hD6 := hD5.keep hb6; have hR6 := hR5.keep hb6; have hb06 := below_step hb05 hb6; have u0 := (hb6.cell (p := ⟨w2.heap.size, 0, none⟩) zlt).trans z0; obtain ⟨bA, oA, rfl, hbA, hcA⟩ := hD6.hs.2 hpos; have hc0 := hcA 0 hpos; rw [HF.out, Nat.add_zero] at hc0; clear hcA))
        | (go_at_call 16; ((with_reducible refine (CG _ _ _ hR6).out.mono ?_); rintro e w7 ⟨rfl, hb7⟩)))
      go_ret
      exact ⟨rfl, below_step hb06 hb7⟩
    · obtain ⟨ez, hez⟩ : ∃ ez, dgE code = ez := ⟨_, rfl⟩
      rw [hez] at hE
      have CD : ∀ W, Below w.heap.size w W → Hid (Calls Try.prog 19 #[.slice C n cc] W fun e w' => ∃ A ns cs B nm cm, e = .returned (.tuple #[dval A ns cs B nm cm 0, .int .i64 ez]) ∧ Below W.heap.size W w') := fun W hb =>
        dg_no C n cc code W (hC.keep hb) hn (inL_of hI) ez hez
      have hE' : (ez == 0) = false := by simpa using hE
      clear hC hI hE hez
      go_enter Try.func6, Try.ntmps6
      go_wp2_with (first
        | (go_at_call 10; ((with_reducible refine CA.out.mono ?_); rintro e w1 ⟨rfl, hb1⟩))
        | (go_at_call 19; ((with_reducible refine (CD _ hb1).out.mono ?_); rintro e w2 ⟨A, ns, cs, B, nm, cm, rfl, hb2⟩)))
      go_ret
      exact ⟨rfl, below_step (below_step hb1 hb2) (below_alloc _ _)⟩

end Go.Proofs.Ytambhopkacgddaa

/- Plain mathematics: the passages of each crossing, as the reference lists them. -/
namespace Go.Proofs.Ytambhopkacgddaa

def nmR (st : List Int) (k c : Nat) : List Int := ((List.range k).filter (fun j => cr st j == c)).map fun j => ((j : Nat) : Int)
def nmK (st : List Int) (n k : Nat) : List (List Int) := (List.range n).map (nmR st k)
theorem nmK_length (st : List Int) (n k : Nat) : (nmK st n k).length = n := by simp [nmK]
theorem nmK_get {st : List Int} {n k c : Nat} (hc : c < n) : (nmK st n k).getD c [] = nmR st k c := by simp [nmK, List.getD, hc]
theorem nmR_succ (st : List Int) (k c : Nat) : nmR st (k + 1) c = nmR st k c ++ if cr st k = c then [(k : Int)] else [] := by
  unfold nmR
  rw [List.range_succ, List.filter_append, List.map_append]
  congr 1
  by_cases h : cr st k = c <;> simp [h]
theorem nmR_le (st : List Int) (k c : Nat) : (nmR st k c).length ≤ k := by
  unfold nmR; rw [List.length_map]; exact Nat.le_trans (List.length_filter_le _ _) (by simp)
theorem nmK_zero (st : List Int) (n : Nat) : nmK st n 0 = List.replicate n [] := by
  unfold nmK; exact List.ext_getElem (by simp) fun i h1 h2 => by simp [nmR]
theorem nmK_succ {st : List Int} {n k : Nat} (_h : cr st k < n) : nmK st n (k + 1) = (nmK st n k).set (cr st k) (nmR st k (cr st k) ++ [(k : Int)]) := by
  refine List.ext_getElem (by simp [nmK]) fun i h1 h2 => ?_
  have hi : i < n := by simpa [nmK] using h1
  rw [List.getElem_set]
  simp only [nmK, List.getElem_map, List.getElem_range]
  rw [nmR_succ]
  by_cases e : cr st k = i
  · rw [if_pos e, if_pos e, e]
  · rw [if_neg e, if_neg e, List.append_nil]

theorem filter_none {p : Nat → Bool} {N : Nat} (h : ∀ j, j < N → p j = false) : (List.range N).filter p = [] := by
  rw [List.filter_eq_nil_iff]; intro a ha; rw [h a (by simpa using ha)]; decide
theorem filter_one {p : Nat → Bool} {N x : Nat} (hx : x < N) (px : p x = true) (h : ∀ j, j < N → p j = true → j = x) : (List.range N).filter p = [x] := by
  induction N with
  | zero => omega
  | succ N ih =>
    rw [List.range_succ, List.filter_append]
    by_cases e : x = N
    · subst e
      rw [filter_none fun j hj => by
        cases q : p j with
        | false => rfl
        | true => have := h j (by omega) q; omega]
      simp [px]
    · have hN : p N = false := by
        cases q : p N with
        | false => rfl
        | true => have := h N (by omega) q; omega
      rw [ih (by omega) fun j hj => h j (by omega)]
      simp [hN]
theorem filter_two {p : Nat → Bool} {N x y : Nat} (hxy : x < y) (hy : y < N) (px : p x = true) (py : p y = true) (h : ∀ j, j < N → p j = true → j = x ∨ j = y) : (List.range N).filter p = [x, y] := by
  induction N with
  | zero => omega
  | succ N ih =>
    rw [List.range_succ, List.filter_append]
    by_cases e : y = N
    · subst e
      rw [filter_one hxy px fun j hj pj => by have := h j (by omega) pj; omega]
      simp [py]
    · have hN : p N = false := by
        cases q : p N with
        | false => rfl
        | true => have := h N (by omega) q; omega
      rw [ih (by omega) fun j hj => h j (by omega)]
      simp [hN]
/-- The even and the odd place of a crossing. -/
theorem KnotSt.two {st : List Int} {n c : Nat} (h : KnotSt st n) (hc : c < n) : ∃ i j, i < n ∧ j < n ∧ cr st (2 * i) = c ∧ cr st (2 * j + 1) = c ∧ evK st n c = vlO st j ∧
    (nmR st (2 * n) c = [((2 * i : Nat) : Int), ((2 * j + 1 : Nat) : Int)] ∨ nmR st (2 * n) c = [((2 * j + 1 : Nat) : Int), ((2 * i : Nat) : Int)]) := by
  obtain ⟨i, hi, ei⟩ := h.evP.hit hc
  obtain ⟨j, hj, ej⟩ := h.odP.hit hc
  have hall : ∀ k, k < 2 * n → (cr st k == c) = true → k = 2 * i ∨ k = 2 * j + 1 := fun k hk q => by
    have q' : cr st k = c := by simpa using q
    rcases (show k % 2 = 0 ∨ k % 2 = 1 by omega) with e | e
    · left
      have := h.ev (k / 2) i (by omega) hi (by rw [show 2 * (k / 2) = k by omega, q']; exact ei.symm)
      omega
    · right
      have := h.od (k / 2) j (by omega) hj (by rw [show 2 * (k / 2) + 1 = k by omega, q']; exact ej.symm)
      omega
  have p1 : (cr st (2 * i) == c) = true := by simpa using ei
  have p2 : (cr st (2 * j + 1) == c) = true := by simpa using ej
  refine ⟨i, j, hi, hj, ei, ej, ?_, ?_⟩
  · have := h.evK_in hj (Nat.le_refl _)
    rw [← this]
    exact congrArg _ ej.symm
  · unfold nmR
    rcases Nat.lt_or_ge (2 * i) (2 * j + 1) with hlt | hge
    · left
      rw [filter_two hlt (by omega) p1 p2 hall]; rfl
    · right
      rw [filter_two (show 2 * j + 1 < 2 * i by omega) (by omega) p2 p1 fun k hk q => (hall k hk q).symm]; rfl

end Go.Proofs.Ytambhopkacgddaa
