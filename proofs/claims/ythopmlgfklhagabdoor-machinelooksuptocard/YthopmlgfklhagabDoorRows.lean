/-
  NARROWER THAN 'FOR EVERY INPUT', by the rows' own cells (each row's printed sentence says how): MachineLooks: laid · MachinePuts: laid.
  DERIVED. THE GIVEN ROWS OF THIS SEAT. 2 by the template 'for every input the law returns true; each argument reads behind the call as it read before'; 0 by the template 'total and deterministic' (their statements: YthopmlgfklhagabDoorTotals.lean).
  GIVEN WITH THE SEED: the statements are not yours to turn. If you find one false, say at which input.
  Laid BY PROGRAM, IN A SANDBOX (cutbox-rows.mjs): the forced cells as the released guide's own fill.sh prints them over the translation 6e5d536f2e376c04… (all of the seat's roots in one cut). By AI agents, Wed Nov 11 2026. No macro, syntax, notation, axiom, sorry.
-/
import Derived.Test.YthopmlgfklhagabDoorChecked
import GoSem.Claim
import GoSem.ClaimJoined
import GoSem.ClaimMapViews
import Derived.JoinedTies
import Derived.KernelRfl
namespace Go.Proofs.YthopmlgfklhagabDoor
/- THE CELL 'sum', in the pinned program and in every row, IS THE sha256 OF THE DUMP (.gsa) THAT YthopmlgfklhagabDoorProg.lean LOADS. Nothing in Lean hashes anything: it is a label: what it is worth is what the hold of that sum in a sandbox is worth. -/
noncomputable def Tryd.pinned : Pinned := { name := "ythopmlgfklhagabdoor", sum := "6e5d536f2e376c04f8699ecf2d9b961c85e00ac46373a7a714634ad8ceaa938b", checked := Tryd.checked }
namespace Rows
def none {H : Type} : Left H := { results := [], args := [] }

/- WHAT THE LISTED PACKAGE-LEVEL VARIABLES READ AS WHEN THE CALL BEGINS. Each datum BY PROGRAM (the guide's laid-datum.mjs) off the statement by which the dump's own 'gosem.cut.vars' lays the variable. In a bare row this is a premise. The card (YthopmlgfklhagabDoorCards.lean) ties it to the program's text. -/
def laid_factotum_code_operands {H : Type} : DataW H := .agg [.lit (.int .i64 0), .lit (.int .i64 1), .lit (.int .i64 2), .lit (.int .i64 3), .lit (.int .i64 3), .lit (.int .i64 3), .lit (.int .i64 3), .lit (.int .i64 3), .lit (.int .i64 3), .lit (.int .i64 1), .lit (.int .i64 2), .lit (.int .i64 2), .lit (.int .i64 2), .lit (.int .i64 1), .lit (.int .i64 1), .lit (.int .i64 1), .lit (.int .i64 3), .lit (.int .i64 0), .lit (.int .i64 1), .lit (.int .i64 1)]

/-- 'factotumlaw16.MachineLooks': WHATEVER THE INPUT: true; the input reads as it did. -/
def machineLooksSpec : ChangeSpec := { name := "machineLooks", fn := fun _ => fun
  | [d1, d2, d3] => { results := [.lit (.bool true)], args := [d1, d2, d3] }
  | _ => none }
def machineLooksRow : OpenClaim := { program := "ythopmlgfklhagabdoor", sum := "6e5d536f2e376c04f8699ecf2d9b961c85e00ac46373a7a714634ad8ceaa938b", func := "factotum/factotumlaw16.MachineLooks", spec := "machineLooks", inPlace := ["internal/bytealg.abigen_runtime_cmpstring"], unfollowed := true, recurses := true, named := ["factotum/code.operands"], apart := false, laid := [("factotum/code.operands", laid_factotum_code_operands)] }
def MachineLooksSaid : Prop := machineLooksRow.holds Tryd.pinned (OpenSpec.ofChange machineLooksSpec)

/-- ITS FALSE NEIGHBOUR: 'it returns false'. Refute it at one input. -/
def machineLooksWrong : ChangeSpec := { name := "machineLooks", fn := fun _ => fun
  | [d1, d2, d3] => { results := [.lit (.bool false)], args := [d1, d2, d3] }
  | _ => none }
def MachineLooksWrongFalsely : Prop := machineLooksRow.holds Tryd.pinned (OpenSpec.ofChange machineLooksWrong)

/-- 'factotumlaw16.MachinePuts': WHATEVER THE INPUT: true; the input reads as it did. -/
def machinePutsSpec : ChangeSpec := { name := "machinePuts", fn := fun _ => fun
  | [d1, d2, d3] => { results := [.lit (.bool true)], args := [d1, d2, d3] }
  | _ => none }
def machinePutsRow : OpenClaim := { program := "ythopmlgfklhagabdoor", sum := "6e5d536f2e376c04f8699ecf2d9b961c85e00ac46373a7a714634ad8ceaa938b", func := "factotum/factotumlaw16.MachinePuts", spec := "machinePuts", inPlace := ["internal/bytealg.abigen_runtime_cmpstring"], unfollowed := true, recurses := true, named := ["factotum/code.operands"], apart := false, laid := [("factotum/code.operands", laid_factotum_code_operands)] }
def MachinePutsSaid : Prop := machinePutsRow.holds Tryd.pinned (OpenSpec.ofChange machinePutsSpec)

/-- ITS FALSE NEIGHBOUR: 'it returns false'. Refute it at one input. -/
def machinePutsWrong : ChangeSpec := { name := "machinePuts", fn := fun _ => fun
  | [d1, d2, d3] => { results := [.lit (.bool false)], args := [d1, d2, d3] }
  | _ => none }
def MachinePutsWrongFalsely : Prop := machinePutsRow.holds Tryd.pinned (OpenSpec.ofChange machinePutsWrong)

/- THE SECOND FORM. 'bulk': how many values and letters a reading holds, each counted each time it is reached (what is shared counts as often as it is met; a slice's spare places count too). A statement '..UptoSaid' is the law's where the arguments, and the package variables that the reading takes, are together of bulk at most 1048576: NARROWER than '..Said'. Prove '..Said' where nothing that the law and all that it calls make is longer than what came in: it says more and counts as full. Else prove '..UptoSaid'. A law counts once. -/
mutual
def uptoBulk {H : Type} : DataW H → Nat
  | .lit (.string bytes) => bytes.length + 1
  | .lit _ => 1
  | .nil => 1
  | .ptr d => uptoBulk d + 1
  | .slice elems spare => uptoBulkAll elems + uptoBulkAll spare + 1
  | .agg parts => uptoBulkAll parts + 1
  | .iface _ d => uptoBulk d + 1
  | .map entries => uptoBulkEntries entries + 1
  | .held _ => 1
def uptoBulkAll {H : Type} : List (DataW H) → Nat
  | [] => 0
  | d :: r => uptoBulk d + uptoBulkAll r
def uptoBulkEntries {H : Type} : List (Lit × DataW H) → Nat
  | [] => 0
  | x :: r => uptoBulkEntry x + uptoBulkEntries r
def uptoBulkEntry {H : Type} : Lit × DataW H → Nat
  | (.string bytes, d) => bytes.length + uptoBulk d + 1
  | (_, d) => uptoBulk d + 1
 end
def uptoSmall : (H : Type) → List (DataW H) → Bool := fun _ ds => decide (uptoBulkAll ds ≤ 1048576)
def OpenSpec.upto (s : _root_.Go.ChangeSpec) : _root_.Go.OpenSpec := { _root_.Go.OpenSpec.ofChange s with cond := some uptoSmall }

/-- 'factotumlaw16.MachineLooks', WHERE WHAT IT READS IS OF BULK AT MOST 1048576: true; the input reads as it did. -/
def machineLooksUptoRow : OpenClaim := { program := "ythopmlgfklhagabdoor", sum := "6e5d536f2e376c04f8699ecf2d9b961c85e00ac46373a7a714634ad8ceaa938b", func := "factotum/factotumlaw16.MachineLooks", spec := "machineLooks", inPlace := ["internal/bytealg.abigen_runtime_cmpstring"], unfollowed := true, recurses := true, named := ["factotum/code.operands"], apart := false, laid := [("factotum/code.operands", laid_factotum_code_operands)], narrowed := true }
def MachineLooksUptoSaid : Prop := machineLooksUptoRow.holds Tryd.pinned (OpenSpec.upto machineLooksSpec)

/-- 'factotumlaw16.MachinePuts', WHERE WHAT IT READS IS OF BULK AT MOST 1048576: true; the input reads as it did. -/
def machinePutsUptoRow : OpenClaim := { program := "ythopmlgfklhagabdoor", sum := "6e5d536f2e376c04f8699ecf2d9b961c85e00ac46373a7a714634ad8ceaa938b", func := "factotum/factotumlaw16.MachinePuts", spec := "machinePuts", inPlace := ["internal/bytealg.abigen_runtime_cmpstring"], unfollowed := true, recurses := true, named := ["factotum/code.operands"], apart := false, laid := [("factotum/code.operands", laid_factotum_code_operands)], narrowed := true }
def MachinePutsUptoSaid : Prop := machinePutsUptoRow.holds Tryd.pinned (OpenSpec.upto machinePutsSpec)

end Rows
end Go.Proofs.YthopmlgfklhagabDoor
