/- Plain mathematics: the lists of the renumbered diagram, half filled. -/
import Derived.Test.YtcllnoigppkjiaaRenPlain
namespace Go.Proofs.Ytcllnoigppkjiaa

def sK (s o : List Int) (n k : Nat) : List Int := (List.range n).map fun i => if i < k then s.getD (ordN o i) 0 else s.getD i 0
def mK (ml : List Int) (m : Nat → Nat) (o : List Int) (n k : Nat) : List Int := (List.range (4 * n)).map fun x => if x < k then (newH o n (m (wasH o x)) : Int) else ml.getD x 0
theorem sK_length (s o : List Int) (n k : Nat) : (sK s o n k).length = n := by simp [sK]
theorem mK_length (ml : List Int) (m : Nat → Nat) (o : List Int) (n k : Nat) : (mK ml m o n k).length = 4 * n := by simp [mK]
theorem sK_zero {s : List Int} (o : List Int) {n : Nat} (h : s.length = n) : sK s o n 0 = s := by
  apply List.ext_getElem (by rw [sK_length, h])
  intro i h1 h2
  simp [sK, List.getD, h2]
theorem mK_zero {ml : List Int} (m : Nat → Nat) (o : List Int) {n : Nat} (h : ml.length = 4 * n) : mK ml m o n 0 = ml := by
  apply List.ext_getElem (by rw [mK_length, h])
  intro i h1 h2
  simp [mK, List.getD, h2]
theorem sK_all (s o : List Int) (n : Nat) : sK s o n n = renS s o n := by
  unfold sK renS
  exact List.map_congr_left fun i hi => by rw [if_pos (by simpa using hi)]
theorem mK_all (ml : List Int) (m : Nat → Nat) (o : List Int) (n : Nat) : mK ml m o n (4 * n) = renM m o n := by
  unfold mK renM
  exact List.map_congr_left fun i hi => by rw [if_pos (by simpa using hi)]
theorem sK_set {s o : List Int} {n k : Nat} (_hk : k < n) : (sK s o n k).set k (s.getD (ordN o k) 0) = sK s o n (k + 1) := by
  apply List.ext_getElem (by simp [sK_length])
  intro i h1 h2
  rw [List.getElem_set]
  by_cases e : k = i
  · subst e; simp [sK]
  · rw [if_neg e]
    simp only [sK, List.getElem_map, List.getElem_range]
    by_cases e2 : i < k
    · rw [if_pos e2, if_pos (by omega)]
    · rw [if_neg e2, if_neg (by omega)]
theorem mK_set {ml o : List Int} {m : Nat → Nat} {n k : Nat} (_hk : k < 4 * n) : (mK ml m o n k).set k (newH o n (m (wasH o k)) : Int) = mK ml m o n (k + 1) := by
  apply List.ext_getElem (by simp [mK_length])
  intro i h1 h2
  rw [List.getElem_set]
  by_cases e : k = i
  · subst e; simp [mK]
  · rw [if_neg e]
    simp only [mK, List.getElem_map, List.getElem_range]
    by_cases e2 : i < k
    · rw [if_pos e2, if_pos (by omega)]
    · rw [if_neg e2, if_neg (by omega)]

end Go.Proofs.Ytcllnoigppkjiaa
