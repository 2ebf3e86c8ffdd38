/-
  DERIVED. GIVEN WITH THE SEED: THE CARDS: each row of YtojohdjeadolfaaDoorRows.lean that lists a variable, with what it lists TIED to the program's text (the seventh form; the later family's looks); each row that meets fmt, with fmt's text TOLD by the authors' own Lean function (tested against real Go, not proved from fmt's source: count such statements apart). THE CARD IS WHAT COUNTS. Prove the row's statement (the work); the ties are given (YtojohdjeadolfaaDoorTie.lean); close each card by the builder's one call (the guide's Derived/Test/ToyasCard.lean, 'card_holds'). Laid BY PROGRAM, IN A SANDBOX (cutbox-door.mjs). By AI agents, Wed Nov 11 2026. No macro, syntax, notation, axiom, sorry.
-/
import Derived.Test.YtojohdjeadolfaaDoorRows
import GoSem.ClaimSeven
namespace Go.Proofs.YtojohdjeadolfaaDoor
namespace Rows

/-- THE TIED CARD OF 'factotumlaw16.MachineLooks'. -/
def machineLooksCard : Claim7 := { stood := { row := machineLooksRow, standIns := [], harness := (true, "f788dd4dd5e683d09fb6f0e796341286b9217b8573e47dc244c91e5de830cbd3"), looks := false }, kinds := [], alts := [], laidByText := true, laidKinds := [.data], laidTests := true, laidLooks := .later }
def MachineLooksCardSaid : Prop := Claim7.holds Tryd.pinned (.plain (OpenSpec.ofChange machineLooksSpec)) machineLooksCard

/-- THE TIED CARD OF 'factotumlaw16.MachineKeys'. -/
def machineKeysCard : Claim7 := { stood := { row := machineKeysRow, standIns := [], harness := (true, "f788dd4dd5e683d09fb6f0e796341286b9217b8573e47dc244c91e5de830cbd3"), looks := false }, kinds := [], alts := [], laidByText := true, laidKinds := [.data], laidTests := true, laidLooks := .later }
def MachineKeysCardSaid : Prop := Claim7.holds Tryd.pinned (.plain (OpenSpec.ofChange machineKeysSpec)) machineKeysCard

/-- THE TIED CARD OF 'factotumlaw16.MachinePuts'. -/
def machinePutsCard : Claim7 := { stood := { row := machinePutsRow, standIns := [], harness := (true, "f788dd4dd5e683d09fb6f0e796341286b9217b8573e47dc244c91e5de830cbd3"), looks := false }, kinds := [], alts := [], laidByText := true, laidKinds := [.data], laidTests := true, laidLooks := .later }
def MachinePutsCardSaid : Prop := Claim7.holds Tryd.pinned (.plain (OpenSpec.ofChange machinePutsSpec)) machinePutsCard

/-- THE TIED CARD OF 'factotumlaw16.MachineFuel'. -/
def machineFuelCard : Claim7 := { stood := { row := machineFuelRow, standIns := [], harness := (true, "f788dd4dd5e683d09fb6f0e796341286b9217b8573e47dc244c91e5de830cbd3"), looks := false }, kinds := [], alts := [], laidByText := true, laidKinds := [.data], laidTests := true, laidLooks := .later }
def MachineFuelCardSaid : Prop := Claim7.holds Tryd.pinned (.plain (OpenSpec.ofChange machineFuelSpec)) machineFuelCard

/-- THE SECOND FORM's CARD OF 'factotumlaw16.MachineLooks'. -/
def machineLooksUptoCard : Claim7 := { stood := { row := machineLooksUptoRow, standIns := [], harness := (true, "f788dd4dd5e683d09fb6f0e796341286b9217b8573e47dc244c91e5de830cbd3"), looks := false }, kinds := [], alts := [], laidByText := true, laidKinds := [.data], laidTests := true, laidLooks := .later }
def MachineLooksUptoCardSaid : Prop := Claim7.holds Tryd.pinned (.plain (OpenSpec.upto machineLooksSpec)) machineLooksUptoCard

/-- THE SECOND FORM's CARD OF 'factotumlaw16.MachineKeys'. -/
def machineKeysUptoCard : Claim7 := { stood := { row := machineKeysUptoRow, standIns := [], harness := (true, "f788dd4dd5e683d09fb6f0e796341286b9217b8573e47dc244c91e5de830cbd3"), looks := false }, kinds := [], alts := [], laidByText := true, laidKinds := [.data], laidTests := true, laidLooks := .later }
def MachineKeysUptoCardSaid : Prop := Claim7.holds Tryd.pinned (.plain (OpenSpec.upto machineKeysSpec)) machineKeysUptoCard

/-- THE SECOND FORM's CARD OF 'factotumlaw16.MachinePuts'. -/
def machinePutsUptoCard : Claim7 := { stood := { row := machinePutsUptoRow, standIns := [], harness := (true, "f788dd4dd5e683d09fb6f0e796341286b9217b8573e47dc244c91e5de830cbd3"), looks := false }, kinds := [], alts := [], laidByText := true, laidKinds := [.data], laidTests := true, laidLooks := .later }
def MachinePutsUptoCardSaid : Prop := Claim7.holds Tryd.pinned (.plain (OpenSpec.upto machinePutsSpec)) machinePutsUptoCard

/-- THE SECOND FORM's CARD OF 'factotumlaw16.MachineFuel'. -/
def machineFuelUptoCard : Claim7 := { stood := { row := machineFuelUptoRow, standIns := [], harness := (true, "f788dd4dd5e683d09fb6f0e796341286b9217b8573e47dc244c91e5de830cbd3"), looks := false }, kinds := [], alts := [], laidByText := true, laidKinds := [.data], laidTests := true, laidLooks := .later }
def MachineFuelUptoCardSaid : Prop := Claim7.holds Tryd.pinned (.plain (OpenSpec.upto machineFuelSpec)) machineFuelUptoCard
end Rows
end Go.Proofs.YtojohdjeadolfaaDoor
