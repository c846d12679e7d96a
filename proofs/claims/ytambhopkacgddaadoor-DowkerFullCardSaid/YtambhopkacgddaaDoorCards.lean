/-
  DERIVED. GIVEN WITH THE SEED: THE CARDS: each row of YtambhopkacgddaaDoorRows.lean that lists a variable, with what it lists TIED to the program's text (the seventh form; the later family's looks); each row that meets fmt, with fmt's text TOLD by the authors' own Lean function (tested against real Go, not proved from fmt's source: count such statements apart). THE CARD IS WHAT COUNTS. Prove the row's statement (the work); the ties are given (YtambhopkacgddaaDoorTie.lean); close each card by the builder's one call (the guide's Derived/Test/ToyasCard.lean, 'card_holds'). Laid BY PROGRAM, IN A SANDBOX (cutbox-door.mjs). By AI agents, Wed Nov 11 2026. No macro, syntax, notation, axiom, sorry.
-/
import Derived.Test.YtambhopkacgddaaDoorRows
import GoSem.ClaimSeven
namespace Go.Proofs.YtambhopkacgddaaDoor
namespace Rows

/-- THE TIED CARD OF 'unravellaw04.DowkerText'. -/
def dowkerTextCard : Claim7 := { stood := { row := dowkerTextRow, standIns := [], harness := (true, "85260d20cfe15e7f76d1bb6ff220db0bcb7fd6b95f970e1d11ca334535e8863f"), looks := true }, kinds := [], alts := [], laidByText := true, laidKinds := [.data, .data, .data, .sentinel, .sentinel, .listed, .data], laidTests := true, laidLooks := .later }
def DowkerTextCardSaid : Prop := Claim7.holds Tryd.pinned (.plain (OpenSpec.ofChange dowkerTextSpec)) dowkerTextCard

/-- THE TIED CARD OF 'unravellaw04.DowkerFull'. -/
def dowkerFullCard : Claim7 := { stood := { row := dowkerFullRow, standIns := [], harness := (true, "85260d20cfe15e7f76d1bb6ff220db0bcb7fd6b95f970e1d11ca334535e8863f"), looks := true }, kinds := [], alts := [], laidByText := true, laidKinds := [.data, .data, .data, .sentinel, .sentinel, .listed, .data], laidTests := true, laidLooks := .later }
def DowkerFullCardSaid : Prop := Claim7.holds Tryd.pinned (.plain (OpenSpec.ofChange dowkerFullSpec)) dowkerFullCard

/-- THE SECOND FORM's CARD OF 'unravellaw04.DowkerText'. -/
def dowkerTextUptoCard : Claim7 := { stood := { row := dowkerTextUptoRow, standIns := [], harness := (true, "85260d20cfe15e7f76d1bb6ff220db0bcb7fd6b95f970e1d11ca334535e8863f"), looks := true }, kinds := [], alts := [], laidByText := true, laidKinds := [.data, .data, .data, .sentinel, .sentinel, .listed, .data], laidTests := true, laidLooks := .later }
def DowkerTextUptoCardSaid : Prop := Claim7.holds Tryd.pinned (.plain (OpenSpec.upto dowkerTextSpec)) dowkerTextUptoCard

/-- THE SECOND FORM's CARD OF 'unravellaw04.DowkerFull'. -/
def dowkerFullUptoCard : Claim7 := { stood := { row := dowkerFullUptoRow, standIns := [], harness := (true, "85260d20cfe15e7f76d1bb6ff220db0bcb7fd6b95f970e1d11ca334535e8863f"), looks := true }, kinds := [], alts := [], laidByText := true, laidKinds := [.data, .data, .data, .sentinel, .sentinel, .listed, .data], laidTests := true, laidLooks := .later }
def DowkerFullUptoCardSaid : Prop := Claim7.holds Tryd.pinned (.plain (OpenSpec.upto dowkerFullSpec)) dowkerFullUptoCard
end Rows
end Go.Proofs.YtambhopkacgddaaDoor
