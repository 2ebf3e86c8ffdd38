/-
  DERIVED. GIVEN WITH THE SEED: THE CARDS: each row of YtgcgacjhkhjhmaaGreatDoorRows.lean that lists a variable, with what it lists TIED to the program's text (the seventh form; the later family's looks); each row that meets fmt, with fmt's text TOLD by the authors' own Lean function (tested against real Go, not proved from fmt's source: count such statements apart). THE CARD IS WHAT COUNTS. Prove the row's statement (the work); the ties are given (YtgcgacjhkhjhmaaGreatDoorTie.lean); close each card by the builder's one call (the guide's Derived/Test/ToyasCard.lean, 'card_holds'). Laid BY PROGRAM, IN A SANDBOX (cutbox-door.mjs). By AI agents, Wed Nov 11 2026. No macro, syntax, notation, axiom, sorry.
-/
import Derived.Test.YtgcgacjhkhjhmaaGreatDoorRows
import GoSem.ClaimSeven
namespace Go.Proofs.YtgcgacjhkhjhmaaGreatDoor
namespace Rows

/-- THE TIED CARD OF 'factotumlaw10.TreeOdd'. -/
def treeOddCard : Claim7 := { stood := { row := treeOddRow, standIns := [], harness := (true, "3e8a0c9c616f8d251d72a456115d50fe42c7156e6e4225c92828e518bf932694"), looks := false }, kinds := [], alts := [], laidByText := true, laidKinds := [.data, .pinned], laidTests := true, laidLooks := .later }
def TreeOddCardSaid : Prop := Claim7.holds Tryz.pinned (.plain (OpenSpec.ofChange treeOddSpec)) treeOddCard

/-- THE SECOND FORM's CARD OF 'factotumlaw10.TreeOdd'. -/
def treeOddUptoCard : Claim7 := { stood := { row := treeOddUptoRow, standIns := [], harness := (true, "3e8a0c9c616f8d251d72a456115d50fe42c7156e6e4225c92828e518bf932694"), looks := false }, kinds := [], alts := [], laidByText := true, laidKinds := [.data, .pinned], laidTests := true, laidLooks := .later }
def TreeOddUptoCardSaid : Prop := Claim7.holds Tryz.pinned (.plain (OpenSpec.upto treeOddSpec)) treeOddUptoCard
end Rows
end Go.Proofs.YtgcgacjhkhjhmaaGreatDoor
