/-
  No cell of these rows narrows 'for every input' (looked for: loops, veiled, ifaces, maps, wideKeys, modest, calm, conditions, laid).
  DERIVED. THE GIVEN ROWS OF THIS SEAT. 8 by the template 'for every input the law returns true; each argument reads behind the call as it read before'; 0 by the template 'total and deterministic' (their statements: YtdamfoobnbjojaaTotals.lean).
  GIVEN WITH THE SEED: the statements are not yours to turn. If you find one false, say at which input.
  Laid BY PROGRAM, IN A SANDBOX (cutbox-rows.mjs): the forced cells as the released guide's own fill.sh prints them over the translation b31da51fa7174f6f… (all of the seat's roots in one cut). By AI agents, Wed Nov 11 2026. No macro, syntax, notation, axiom, sorry.
-/
import Derived.Test.YtdamfoobnbjojaaChecked
import GoSem.Claim
import GoSem.ClaimJoined
import GoSem.ClaimMapViews
import Derived.JoinedTies
import Derived.KernelRfl
namespace Go.Proofs.Ytdamfoobnbjojaa
/- THE CELL 'sum', in the pinned program and in every row, IS THE sha256 OF THE DUMP (.gsa) THAT YtdamfoobnbjojaaProg.lean LOADS. Nothing in Lean hashes anything: it is a label: what it is worth is what the hold of that sum in a sandbox is worth. -/
noncomputable def Try.pinned : Pinned := { name := "ytdamfoobnbjojaa", sum := "b31da51fa7174f6ff2e358056a8b242c31f52eb57c007e6e145d1cbb2783b756", checked := Try.checked }
namespace Rows
def none {H : Type} : Left H := { results := [], args := [] }

/-- 'unravellaw06.MirrorWhole': WHATEVER THE INPUT: true; the input reads as it did. -/
def mirrorWholeSpec : ChangeSpec := { name := "mirrorWhole", fn := fun _ => fun
  | [d] => { results := [.lit (.bool true)], args := [d] }
  | _ => none }
def mirrorWholeRow : OpenClaim := { program := "ytdamfoobnbjojaa", sum := "b31da51fa7174f6ff2e358056a8b242c31f52eb57c007e6e145d1cbb2783b756", func := "unravel/unravellaw06.MirrorWhole", spec := "mirrorWhole", unfollowed := true, recurses := true, apart := false }
def MirrorWholeSaid : Prop := mirrorWholeRow.holds Try.pinned (OpenSpec.ofChange mirrorWholeSpec)

/-- ITS FALSE NEIGHBOUR: 'it returns false'. Refute it at one input. -/
def mirrorWholeWrong : ChangeSpec := { name := "mirrorWhole", fn := fun _ => fun
  | [d] => { results := [.lit (.bool false)], args := [d] }
  | _ => none }
def MirrorWholeWrongFalsely : Prop := mirrorWholeRow.holds Try.pinned (OpenSpec.ofChange mirrorWholeWrong)

/-- 'unravellaw06.MirrorParts': WHATEVER THE INPUT: true; the input reads as it did. -/
def mirrorPartsSpec : ChangeSpec := { name := "mirrorParts", fn := fun _ => fun
  | [d1, d2] => { results := [.lit (.bool true)], args := [d1, d2] }
  | _ => none }
def mirrorPartsRow : OpenClaim := { program := "ytdamfoobnbjojaa", sum := "b31da51fa7174f6ff2e358056a8b242c31f52eb57c007e6e145d1cbb2783b756", func := "unravel/unravellaw06.MirrorParts", spec := "mirrorParts", unfollowed := true, recurses := true, apart := false }
def MirrorPartsSaid : Prop := mirrorPartsRow.holds Try.pinned (OpenSpec.ofChange mirrorPartsSpec)

/-- ITS FALSE NEIGHBOUR: 'it returns false'. Refute it at one input. -/
def mirrorPartsWrong : ChangeSpec := { name := "mirrorParts", fn := fun _ => fun
  | [d1, d2] => { results := [.lit (.bool false)], args := [d1, d2] }
  | _ => none }
def MirrorPartsWrongFalsely : Prop := mirrorPartsRow.holds Try.pinned (OpenSpec.ofChange mirrorPartsWrong)

/-- 'unravellaw06.MirrorUndoes': WHATEVER THE INPUT: true; the input reads as it did. -/
def mirrorUndoesSpec : ChangeSpec := { name := "mirrorUndoes", fn := fun _ => fun
  | [d1, d2, d3] => { results := [.lit (.bool true)], args := [d1, d2, d3] }
  | _ => none }
def mirrorUndoesRow : OpenClaim := { program := "ytdamfoobnbjojaa", sum := "b31da51fa7174f6ff2e358056a8b242c31f52eb57c007e6e145d1cbb2783b756", func := "unravel/unravellaw06.MirrorUndoes", spec := "mirrorUndoes", unfollowed := true, recurses := true, apart := false }
def MirrorUndoesSaid : Prop := mirrorUndoesRow.holds Try.pinned (OpenSpec.ofChange mirrorUndoesSpec)

/-- ITS FALSE NEIGHBOUR: 'it returns false'. Refute it at one input. -/
def mirrorUndoesWrong : ChangeSpec := { name := "mirrorUndoes", fn := fun _ => fun
  | [d1, d2, d3] => { results := [.lit (.bool false)], args := [d1, d2, d3] }
  | _ => none }
def MirrorUndoesWrongFalsely : Prop := mirrorUndoesRow.holds Try.pinned (OpenSpec.ofChange mirrorUndoesWrong)

/-- 'unravellaw06.MirrorCommutes': WHATEVER THE INPUT: true; the input reads as it did. -/
def mirrorCommutesSpec : ChangeSpec := { name := "mirrorCommutes", fn := fun _ => fun
  | [d1, d2, d3, d4, d5] => { results := [.lit (.bool true)], args := [d1, d2, d3, d4, d5] }
  | _ => none }
def mirrorCommutesRow : OpenClaim := { program := "ytdamfoobnbjojaa", sum := "b31da51fa7174f6ff2e358056a8b242c31f52eb57c007e6e145d1cbb2783b756", func := "unravel/unravellaw06.MirrorCommutes", spec := "mirrorCommutes", unfollowed := true, recurses := true, apart := false }
def MirrorCommutesSaid : Prop := mirrorCommutesRow.holds Try.pinned (OpenSpec.ofChange mirrorCommutesSpec)

/-- ITS FALSE NEIGHBOUR: 'it returns false'. Refute it at one input. -/
def mirrorCommutesWrong : ChangeSpec := { name := "mirrorCommutes", fn := fun _ => fun
  | [d1, d2, d3, d4, d5] => { results := [.lit (.bool false)], args := [d1, d2, d3, d4, d5] }
  | _ => none }
def MirrorCommutesWrongFalsely : Prop := mirrorCommutesRow.holds Try.pinned (OpenSpec.ofChange mirrorCommutesWrong)

/-- 'unravellaw06.MirrorSwitches': WHATEVER THE INPUT: true; the input reads as it did. -/
def mirrorSwitchesSpec : ChangeSpec := { name := "mirrorSwitches", fn := fun _ => fun
  | [d1, d2] => { results := [.lit (.bool true)], args := [d1, d2] }
  | _ => none }
def mirrorSwitchesRow : OpenClaim := { program := "ytdamfoobnbjojaa", sum := "b31da51fa7174f6ff2e358056a8b242c31f52eb57c007e6e145d1cbb2783b756", func := "unravel/unravellaw06.MirrorSwitches", spec := "mirrorSwitches", unfollowed := true, recurses := true, apart := false }
def MirrorSwitchesSaid : Prop := mirrorSwitchesRow.holds Try.pinned (OpenSpec.ofChange mirrorSwitchesSpec)

/-- ITS FALSE NEIGHBOUR: 'it returns false'. Refute it at one input. -/
def mirrorSwitchesWrong : ChangeSpec := { name := "mirrorSwitches", fn := fun _ => fun
  | [d1, d2] => { results := [.lit (.bool false)], args := [d1, d2] }
  | _ => none }
def MirrorSwitchesWrongFalsely : Prop := mirrorSwitchesRow.holds Try.pinned (OpenSpec.ofChange mirrorSwitchesWrong)

/-- 'unravellaw06.MirrorReverses': WHATEVER THE INPUT: true; the input reads as it did. -/
def mirrorReversesSpec : ChangeSpec := { name := "mirrorReverses", fn := fun _ => fun
  | [d] => { results := [.lit (.bool true)], args := [d] }
  | _ => none }
def mirrorReversesRow : OpenClaim := { program := "ytdamfoobnbjojaa", sum := "b31da51fa7174f6ff2e358056a8b242c31f52eb57c007e6e145d1cbb2783b756", func := "unravel/unravellaw06.MirrorReverses", spec := "mirrorReverses", unfollowed := true, recurses := true, apart := false }
def MirrorReversesSaid : Prop := mirrorReversesRow.holds Try.pinned (OpenSpec.ofChange mirrorReversesSpec)

/-- ITS FALSE NEIGHBOUR: 'it returns false'. Refute it at one input. -/
def mirrorReversesWrong : ChangeSpec := { name := "mirrorReverses", fn := fun _ => fun
  | [d] => { results := [.lit (.bool false)], args := [d] }
  | _ => none }
def MirrorReversesWrongFalsely : Prop := mirrorReversesRow.holds Try.pinned (OpenSpec.ofChange mirrorReversesWrong)

/-- 'unravellaw06.MirrorSmooths': WHATEVER THE INPUT: true; the input reads as it did. -/
def mirrorSmoothsSpec : ChangeSpec := { name := "mirrorSmooths", fn := fun _ => fun
  | [d1, d2] => { results := [.lit (.bool true)], args := [d1, d2] }
  | _ => none }
def mirrorSmoothsRow : OpenClaim := { program := "ytdamfoobnbjojaa", sum := "b31da51fa7174f6ff2e358056a8b242c31f52eb57c007e6e145d1cbb2783b756", func := "unravel/unravellaw06.MirrorSmooths", spec := "mirrorSmooths", unfollowed := true, recurses := true, apart := false }
def MirrorSmoothsSaid : Prop := mirrorSmoothsRow.holds Try.pinned (OpenSpec.ofChange mirrorSmoothsSpec)

/-- ITS FALSE NEIGHBOUR: 'it returns false'. Refute it at one input. -/
def mirrorSmoothsWrong : ChangeSpec := { name := "mirrorSmooths", fn := fun _ => fun
  | [d1, d2] => { results := [.lit (.bool false)], args := [d1, d2] }
  | _ => none }
def MirrorSmoothsWrongFalsely : Prop := mirrorSmoothsRow.holds Try.pinned (OpenSpec.ofChange mirrorSmoothsWrong)

/-- 'unravellaw06.MirrorCrosses': WHATEVER THE INPUT: true; the input reads as it did. -/
def mirrorCrossesSpec : ChangeSpec := { name := "mirrorCrosses", fn := fun _ => fun
  | [d1, d2, d3, d4] => { results := [.lit (.bool true)], args := [d1, d2, d3, d4] }
  | _ => none }
def mirrorCrossesRow : OpenClaim := { program := "ytdamfoobnbjojaa", sum := "b31da51fa7174f6ff2e358056a8b242c31f52eb57c007e6e145d1cbb2783b756", func := "unravel/unravellaw06.MirrorCrosses", spec := "mirrorCrosses", unfollowed := true, recurses := true, apart := false }
def MirrorCrossesSaid : Prop := mirrorCrossesRow.holds Try.pinned (OpenSpec.ofChange mirrorCrossesSpec)

/-- ITS FALSE NEIGHBOUR: 'it returns false'. Refute it at one input. -/
def mirrorCrossesWrong : ChangeSpec := { name := "mirrorCrosses", fn := fun _ => fun
  | [d1, d2, d3, d4] => { results := [.lit (.bool false)], args := [d1, d2, d3, d4] }
  | _ => none }
def MirrorCrossesWrongFalsely : Prop := mirrorCrossesRow.holds Try.pinned (OpenSpec.ofChange mirrorCrossesWrong)

/- THE SECOND FORM. 'bulk': how many values and letters a reading holds, each counted each time it is reached (what is shared counts as often as it is met; a slice's spare places count too). A statement '..UptoSaid' is the law's where the arguments, and the package variables that the reading takes, are together of bulk at most 1048576: NARROWER than '..Said'. Prove '..Said' where nothing that the law and all that it calls make is longer than what came in: it says more and counts as full. Else prove '..UptoSaid'. A law counts once. -/
mutual
def uptoBulk {H : Type} : DataW H → Nat
  | .lit (.string bytes) => bytes.length + 1
  | .lit _ => 1
  | .nil => 1
  | .ptr d => uptoBulk d + 1
  | .slice elems spare => uptoBulkAll elems + uptoBulkAll spare + 1
  | .agg parts => uptoBulkAll parts + 1
  | .iface _ d => uptoBulk d + 1
  | .map entries => uptoBulkEntries entries + 1
  | .held _ => 1
def uptoBulkAll {H : Type} : List (DataW H) → Nat
  | [] => 0
  | d :: r => uptoBulk d + uptoBulkAll r
def uptoBulkEntries {H : Type} : List (Lit × DataW H) → Nat
  | [] => 0
  | x :: r => uptoBulkEntry x + uptoBulkEntries r
def uptoBulkEntry {H : Type} : Lit × DataW H → Nat
  | (.string bytes, d) => bytes.length + uptoBulk d + 1
  | (_, d) => uptoBulk d + 1
 end
def uptoSmall : (H : Type) → List (DataW H) → Bool := fun _ ds => decide (uptoBulkAll ds ≤ 1048576)
def OpenSpec.upto (s : _root_.Go.ChangeSpec) : _root_.Go.OpenSpec := { _root_.Go.OpenSpec.ofChange s with cond := some uptoSmall }

/-- 'unravellaw06.MirrorWhole', WHERE WHAT IT READS IS OF BULK AT MOST 1048576: true; the input reads as it did. -/
def mirrorWholeUptoRow : OpenClaim := { program := "ytdamfoobnbjojaa", sum := "b31da51fa7174f6ff2e358056a8b242c31f52eb57c007e6e145d1cbb2783b756", func := "unravel/unravellaw06.MirrorWhole", spec := "mirrorWhole", unfollowed := true, recurses := true, apart := false, narrowed := true }
def MirrorWholeUptoSaid : Prop := mirrorWholeUptoRow.holds Try.pinned (OpenSpec.upto mirrorWholeSpec)

/-- 'unravellaw06.MirrorParts', WHERE WHAT IT READS IS OF BULK AT MOST 1048576: true; the input reads as it did. -/
def mirrorPartsUptoRow : OpenClaim := { program := "ytdamfoobnbjojaa", sum := "b31da51fa7174f6ff2e358056a8b242c31f52eb57c007e6e145d1cbb2783b756", func := "unravel/unravellaw06.MirrorParts", spec := "mirrorParts", unfollowed := true, recurses := true, apart := false, narrowed := true }
def MirrorPartsUptoSaid : Prop := mirrorPartsUptoRow.holds Try.pinned (OpenSpec.upto mirrorPartsSpec)

/-- 'unravellaw06.MirrorUndoes', WHERE WHAT IT READS IS OF BULK AT MOST 1048576: true; the input reads as it did. -/
def mirrorUndoesUptoRow : OpenClaim := { program := "ytdamfoobnbjojaa", sum := "b31da51fa7174f6ff2e358056a8b242c31f52eb57c007e6e145d1cbb2783b756", func := "unravel/unravellaw06.MirrorUndoes", spec := "mirrorUndoes", unfollowed := true, recurses := true, apart := false, narrowed := true }
def MirrorUndoesUptoSaid : Prop := mirrorUndoesUptoRow.holds Try.pinned (OpenSpec.upto mirrorUndoesSpec)

/-- 'unravellaw06.MirrorCommutes', WHERE WHAT IT READS IS OF BULK AT MOST 1048576: true; the input reads as it did. -/
def mirrorCommutesUptoRow : OpenClaim := { program := "ytdamfoobnbjojaa", sum := "b31da51fa7174f6ff2e358056a8b242c31f52eb57c007e6e145d1cbb2783b756", func := "unravel/unravellaw06.MirrorCommutes", spec := "mirrorCommutes", unfollowed := true, recurses := true, apart := false, narrowed := true }
def MirrorCommutesUptoSaid : Prop := mirrorCommutesUptoRow.holds Try.pinned (OpenSpec.upto mirrorCommutesSpec)

/-- 'unravellaw06.MirrorSwitches', WHERE WHAT IT READS IS OF BULK AT MOST 1048576: true; the input reads as it did. -/
def mirrorSwitchesUptoRow : OpenClaim := { program := "ytdamfoobnbjojaa", sum := "b31da51fa7174f6ff2e358056a8b242c31f52eb57c007e6e145d1cbb2783b756", func := "unravel/unravellaw06.MirrorSwitches", spec := "mirrorSwitches", unfollowed := true, recurses := true, apart := false, narrowed := true }
def MirrorSwitchesUptoSaid : Prop := mirrorSwitchesUptoRow.holds Try.pinned (OpenSpec.upto mirrorSwitchesSpec)

/-- 'unravellaw06.MirrorReverses', WHERE WHAT IT READS IS OF BULK AT MOST 1048576: true; the input reads as it did. -/
def mirrorReversesUptoRow : OpenClaim := { program := "ytdamfoobnbjojaa", sum := "b31da51fa7174f6ff2e358056a8b242c31f52eb57c007e6e145d1cbb2783b756", func := "unravel/unravellaw06.MirrorReverses", spec := "mirrorReverses", unfollowed := true, recurses := true, apart := false, narrowed := true }
def MirrorReversesUptoSaid : Prop := mirrorReversesUptoRow.holds Try.pinned (OpenSpec.upto mirrorReversesSpec)

/-- 'unravellaw06.MirrorSmooths', WHERE WHAT IT READS IS OF BULK AT MOST 1048576: true; the input reads as it did. -/
def mirrorSmoothsUptoRow : OpenClaim := { program := "ytdamfoobnbjojaa", sum := "b31da51fa7174f6ff2e358056a8b242c31f52eb57c007e6e145d1cbb2783b756", func := "unravel/unravellaw06.MirrorSmooths", spec := "mirrorSmooths", unfollowed := true, recurses := true, apart := false, narrowed := true }
def MirrorSmoothsUptoSaid : Prop := mirrorSmoothsUptoRow.holds Try.pinned (OpenSpec.upto mirrorSmoothsSpec)

/-- 'unravellaw06.MirrorCrosses', WHERE WHAT IT READS IS OF BULK AT MOST 1048576: true; the input reads as it did. -/
def mirrorCrossesUptoRow : OpenClaim := { program := "ytdamfoobnbjojaa", sum := "b31da51fa7174f6ff2e358056a8b242c31f52eb57c007e6e145d1cbb2783b756", func := "unravel/unravellaw06.MirrorCrosses", spec := "mirrorCrosses", unfollowed := true, recurses := true, apart := false, narrowed := true }
def MirrorCrossesUptoSaid : Prop := mirrorCrossesUptoRow.holds Try.pinned (OpenSpec.upto mirrorCrossesSpec)

end Rows
end Go.Proofs.Ytdamfoobnbjojaa
