/- Plain facts of Euler's formula: the faces of a valid diagram as rows; their number; the sides of an edge. -/
import Derived.Test.YtcngpnhecgppiaaSpoil
import Derived.Test.YtcngpnhecgppiaaPaintPlain
import Derived.Test.YtcngpnhecgppiaaFlatPlain
namespace Go.Proofs.Ytcngpnhecgppiaa
open Go.RowKit

theorem reprs_true (f : Nat → Nat) (N : Nat) : reprs f N (fun _ => true) = reps f N := by
  unfold reprs reps
  exact List.filter_congr fun h _ => by simp [sel, fst]
theorem rootsN_length (F : Nat → Nat) (n : Nat) : (roots F n).length = rootsN F n := by
  unfold roots rootsN; rw [List.countP_eq_length_filter]
structure EuF (f : Nat → Nat) (ns nm : Nat) (s m : List Int) (lp : Int) : Prop where
  n4 : nm = 4 * ns
  le : ns ≤ 64
  p : Perm f nm
  kle : (reps f nm).length ≤ 256
  len : (facesM s m lp).length = (reps f nm).length
  row : ∀ k, k < (reps f nm).length → (facesM s m lp).getD k [] = itl f ((reps f nm).getD k 0) (per f nm ((reps f nm).getD k 0)) ∧ (reps f nm).getD k 0 < nm
  mates : ∀ h, h < nm → mt m h = (matesOf m h : Nat) ∧ matesOf m h < nm
  sides : ∀ h, h < nm → ¬ Orb f h (matesOf m h)
  count : (reps f nm).length = ns + 2 * (graphM s m lp).length
theorem euler_facts {s m : List Int} {lp : Int} {ns nm : Nat} (hv : validB s m lp = true) (hls : s.length = ns) (hlm : m.length = nm) : EuF (ff (matesOf m)) ns nm s m lp := by
  obtain ⟨v1, v2, v3, v4⟩ := validB_out hv
  obtain ⟨l1, l2, l3, l4⟩ := limB_out v1
  have hn4 : nm = 4 * ns := by omega
  obtain ⟨n, e1, e2, hi, hf, hsp⟩ := valid_data hv
  have en : n = ns := by omega
  subst en
  have hP : Perm (ff (matesOf m)) nm := by rw [hn4]; exact hi.perm 3
  have eF : facesM s m lp = (reps (ff (matesOf m)) nm).map (fun h => itl (ff (matesOf m)) h (per (ff (matesOf m)) nm h)) := by
    unfold facesM
    rw [if_pos hv, hlm, cycL_reprs, reprs_true]
  have hkl : (reps (ff (matesOf m)) nm).length ≤ nm := Nat.le_trans (List.length_filter_le _ _) (by simp)
  refine ⟨hn4, by omega, hP, by omega, by rw [eF, List.length_map], fun k hk => ?_, fun h hh => ?_, fun h hh => sides_valid hv h (by omega), ?_⟩
  · have h1 := reps_at hk
    rw [eF]
    exact ⟨by simp [List.getD, hk], h1.1⟩
  · exact matesOf_mates v3 hlm h hh
  · have := euler_all hsp (fun c => root_le _ _) (fun c => root_root _ _)
    unfold graphM labM
    rw [if_pos hv, graphL_length, rootsN_length, hls, hlm, hn4]
    unfold reps
    rw [← List.countP_eq_length_filter]
    exact this

end Go.Proofs.Ytcngpnhecgppiaa
