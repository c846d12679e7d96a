/- The examples of the chapter, computed. -/
import Derived.Test.YtcllnoigppkjiaaDv
namespace Go.Proofs.Ytcllnoigppkjiaa
open Go.RowKit

def trS : List Int := [1, 1, 1]
def trM : List Int := [9, 4, 7, 10, 1, 8, 11, 2, 5, 0, 3, 6]
def kkS : List Int := [1]
def kkM : List Int := [1, 0, 3, 2]

theorem tr_lab : IsLab (matesOf trM) 12 3 (fun _ => 0) := by
  refine ⟨fun c hc => ⟨Nat.zero_le _, ?_⟩, fun _ _ => rfl⟩
  have h0 : Conn (matesOf trM) 12 0 2 := Conn.step 0 (by omega) (Conn.refl 0)
  have h1 : Conn (matesOf trM) 12 0 1 := Conn.step 1 (by omega) (Conn.refl 0)
  match c, hc with
  | 0, _ => exact .refl _
  | 1, _ => exact h1.symm
  | 2, _ => exact h0.symm
theorem kk_lab : IsLab (matesOf kkM) 4 1 (fun _ => 0) := by
  refine ⟨fun c hc => ⟨Nat.zero_le _, ?_⟩, fun _ _ => rfl⟩
  match c, hc with
  | 0, _ => exact .refl _
theorem tr_sph : sphM trM 3 = true := by
  show sphB (ufLab (matesOf trM) 12) (ff (matesOf trM)) (4 * 3) 3 = true
  rw [sphB_congr (G := fun _ => 0) fun c hc => (ufLab_isLab (matesOf trM) 12 3).unique tr_lab c hc]
  decide +kernel
theorem kk_sph : sphM kkM 1 = true := by
  show sphB (ufLab (matesOf kkM) 4) (ff (matesOf kkM)) (4 * 1) 1 = true
  rw [sphB_congr (G := fun _ => 0) fun c hc => (ufLab_isLab (matesOf kkM) 4 1).unique kk_lab c hc]
  decide +kernel
theorem tr_valid : validB trS trM 0 = true := by
  unfold validB
  rw [show trS.length = 3 from rfl, tr_sph]
  decide +kernel
theorem kk_valid : validB kkS kkM 0 = true := by
  unfold validB
  rw [show kkS.length = 1 from rfl, kk_sph]
  decide +kernel
theorem tr_faces : facesM trS trM 0 = [[0, 8, 4], [1, 7], [2, 6, 10], [3, 9], [5, 11]] := by
  unfold facesM; rw [if_pos tr_valid]; decide +kernel
theorem tr_strands : strandsM trS trM 0 = [[1, 6, 9, 2, 5, 10]] := by
  unfold strandsM; rw [if_pos tr_valid]; decide +kernel
theorem kk_faces : facesM kkS kkM 0 = [[0], [1, 3], [2]] := by
  unfold facesM; rw [if_pos kk_valid]; decide +kernel

end Go.Proofs.Ytcllnoigppkjiaa
