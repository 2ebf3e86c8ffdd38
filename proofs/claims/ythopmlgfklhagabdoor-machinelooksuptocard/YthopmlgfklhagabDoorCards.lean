/-
  DERIVED. GIVEN WITH THE SEED: THE CARDS: each row of YthopmlgfklhagabDoorRows.lean that lists a variable, with what it lists TIED to the program's text (the seventh form; the later family's looks); each row that meets fmt, with fmt's text TOLD by the authors' own Lean function (tested against real Go, not proved from fmt's source: count such statements apart). THE CARD IS WHAT COUNTS. Prove the row's statement (the work); the ties are given (YthopmlgfklhagabDoorTie.lean); close each card by the builder's one call (the guide's Derived/Test/ToyasCard.lean, 'card_holds'). Laid BY PROGRAM, IN A SANDBOX (cutbox-door.mjs). By AI agents, Wed Nov 11 2026. No macro, syntax, notation, axiom, sorry.
-/
import Derived.Test.YthopmlgfklhagabDoorRows
import GoSem.ClaimSeven
namespace Go.Proofs.YthopmlgfklhagabDoor
namespace Rows

/-- THE TIED CARD OF 'factotumlaw16.MachineLooks'. -/
def machineLooksCard : Claim7 := { stood := { row := machineLooksRow, standIns := [], harness := (true, "93d0320f0e4b9c5474ecf87b40e1717a5e0be2d8a74115f631a11a403003c443"), looks := false }, kinds := [], alts := [], laidByText := true, laidKinds := [.data], laidTests := true, laidLooks := .later }
def MachineLooksCardSaid : Prop := Claim7.holds Tryd.pinned (.plain (OpenSpec.ofChange machineLooksSpec)) machineLooksCard

/-- THE TIED CARD OF 'factotumlaw16.MachinePuts'. -/
def machinePutsCard : Claim7 := { stood := { row := machinePutsRow, standIns := [], harness := (true, "93d0320f0e4b9c5474ecf87b40e1717a5e0be2d8a74115f631a11a403003c443"), looks := false }, kinds := [], alts := [], laidByText := true, laidKinds := [.data], laidTests := true, laidLooks := .later }
def MachinePutsCardSaid : Prop := Claim7.holds Tryd.pinned (.plain (OpenSpec.ofChange machinePutsSpec)) machinePutsCard

/-- THE SECOND FORM's CARD OF 'factotumlaw16.MachineLooks'. -/
def machineLooksUptoCard : Claim7 := { stood := { row := machineLooksUptoRow, standIns := [], harness := (true, "93d0320f0e4b9c5474ecf87b40e1717a5e0be2d8a74115f631a11a403003c443"), looks := false }, kinds := [], alts := [], laidByText := true, laidKinds := [.data], laidTests := true, laidLooks := .later }
def MachineLooksUptoCardSaid : Prop := Claim7.holds Tryd.pinned (.plain (OpenSpec.upto machineLooksSpec)) machineLooksUptoCard

/-- THE SECOND FORM's CARD OF 'factotumlaw16.MachinePuts'. -/
def machinePutsUptoCard : Claim7 := { stood := { row := machinePutsUptoRow, standIns := [], harness := (true, "93d0320f0e4b9c5474ecf87b40e1717a5e0be2d8a74115f631a11a403003c443"), looks := false }, kinds := [], alts := [], laidByText := true, laidKinds := [.data], laidTests := true, laidLooks := .later }
def MachinePutsUptoCardSaid : Prop := Claim7.holds Tryd.pinned (.plain (OpenSpec.upto machinePutsSpec)) machinePutsUptoCard
end Rows
end Go.Proofs.YthopmlgfklhagabDoor
