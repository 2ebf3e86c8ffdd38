/-
  NARROWER THAN 'FOR EVERY INPUT', by the rows' own cells (each row's printed sentence says how): CodeWrites: laid · CodeReads: laid · CodeBack: laid · CodeOperands: laid · CodeJoins: laid.
  DERIVED. THE GIVEN ROWS OF THIS SEAT. 5 by the template 'for every input the law returns true; each argument reads behind the call as it read before'; 0 by the template 'total and deterministic' (their statements: YtohcpgoiclapjaaDoorTotals.lean).
  GIVEN WITH THE SEED: the statements are not yours to turn. If you find one false, say at which input.
  Laid BY PROGRAM, IN A SANDBOX (cutbox-rows.mjs): the forced cells as the released guide's own fill.sh prints them over the translation 842a4dbbcda90512… (all of the seat's roots in one cut). By AI agents, Wed Nov 11 2026. No macro, syntax, notation, axiom, sorry.
-/
import Derived.Test.YtohcpgoiclapjaaDoorChecked
import GoSem.Claim
import GoSem.ClaimJoined
import GoSem.ClaimMapViews
import Derived.JoinedTies
import Derived.KernelRfl
namespace Go.Proofs.YtohcpgoiclapjaaDoor
/- THE CELL 'sum', in the pinned program and in every row, IS THE sha256 OF THE DUMP (.gsa) THAT YtohcpgoiclapjaaDoorProg.lean LOADS. Nothing in Lean hashes anything: it is a label: what it is worth is what the hold of that sum in a sandbox is worth. -/
noncomputable def Tryd.pinned : Pinned := { name := "ytohcpgoiclapjaadoor", sum := "842a4dbbcda905128d5c8097126117b04cfc08d7eac788eb1864d0af053a9cc1", checked := Tryd.checked }
namespace Rows
def none {H : Type} : Left H := { results := [], args := [] }

/- WHAT THE LISTED PACKAGE-LEVEL VARIABLES READ AS WHEN THE CALL BEGINS. Each datum BY PROGRAM (the guide's laid-datum.mjs) off the statement by which the dump's own 'gosem.cut.vars' lays the variable. In a bare row this is a premise. The card (YtohcpgoiclapjaaDoorCards.lean) ties it to the program's text. -/
def laid_factotum_code_operands {H : Type} : DataW H := .agg [.lit (.int .i64 0), .lit (.int .i64 1), .lit (.int .i64 2), .lit (.int .i64 3), .lit (.int .i64 3), .lit (.int .i64 3), .lit (.int .i64 3), .lit (.int .i64 3), .lit (.int .i64 3), .lit (.int .i64 1), .lit (.int .i64 2), .lit (.int .i64 2), .lit (.int .i64 2), .lit (.int .i64 1), .lit (.int .i64 1), .lit (.int .i64 1), .lit (.int .i64 3), .lit (.int .i64 0), .lit (.int .i64 1), .lit (.int .i64 1)]

/-- 'factotumlaw13.CodeWrites': WHATEVER THE INPUT: true; the input reads as it did. -/
def codeWritesSpec : ChangeSpec := { name := "codeWrites", fn := fun _ => fun
  | [d] => { results := [.lit (.bool true)], args := [d] }
  | _ => none }
def codeWritesRow : OpenClaim := { program := "ytohcpgoiclapjaadoor", sum := "842a4dbbcda905128d5c8097126117b04cfc08d7eac788eb1864d0af053a9cc1", func := "factotum/factotumlaw13.CodeWrites", spec := "codeWrites", named := ["factotum/code.operands"], apart := false, laid := [("factotum/code.operands", laid_factotum_code_operands)] }
def CodeWritesSaid : Prop := codeWritesRow.holds Tryd.pinned (OpenSpec.ofChange codeWritesSpec)

/-- ITS FALSE NEIGHBOUR: 'it returns false'. Refute it at one input. -/
def codeWritesWrong : ChangeSpec := { name := "codeWrites", fn := fun _ => fun
  | [d] => { results := [.lit (.bool false)], args := [d] }
  | _ => none }
def CodeWritesWrongFalsely : Prop := codeWritesRow.holds Tryd.pinned (OpenSpec.ofChange codeWritesWrong)

/-- 'factotumlaw13.CodeReads': WHATEVER THE INPUT: true; the input reads as it did. -/
def codeReadsSpec : ChangeSpec := { name := "codeReads", fn := fun _ => fun
  | [d] => { results := [.lit (.bool true)], args := [d] }
  | _ => none }
def codeReadsRow : OpenClaim := { program := "ytohcpgoiclapjaadoor", sum := "842a4dbbcda905128d5c8097126117b04cfc08d7eac788eb1864d0af053a9cc1", func := "factotum/factotumlaw13.CodeReads", spec := "codeReads", named := ["factotum/code.operands"], apart := false, laid := [("factotum/code.operands", laid_factotum_code_operands)] }
def CodeReadsSaid : Prop := codeReadsRow.holds Tryd.pinned (OpenSpec.ofChange codeReadsSpec)

/-- ITS FALSE NEIGHBOUR: 'it returns false'. Refute it at one input. -/
def codeReadsWrong : ChangeSpec := { name := "codeReads", fn := fun _ => fun
  | [d] => { results := [.lit (.bool false)], args := [d] }
  | _ => none }
def CodeReadsWrongFalsely : Prop := codeReadsRow.holds Tryd.pinned (OpenSpec.ofChange codeReadsWrong)

/-- 'factotumlaw13.CodeBack': WHATEVER THE INPUT: true; the input reads as it did. -/
def codeBackSpec : ChangeSpec := { name := "codeBack", fn := fun _ => fun
  | [d1, d2] => { results := [.lit (.bool true)], args := [d1, d2] }
  | _ => none }
def codeBackRow : OpenClaim := { program := "ytohcpgoiclapjaadoor", sum := "842a4dbbcda905128d5c8097126117b04cfc08d7eac788eb1864d0af053a9cc1", func := "factotum/factotumlaw13.CodeBack", spec := "codeBack", named := ["factotum/code.operands"], apart := false, laid := [("factotum/code.operands", laid_factotum_code_operands)] }
def CodeBackSaid : Prop := codeBackRow.holds Tryd.pinned (OpenSpec.ofChange codeBackSpec)

/-- ITS FALSE NEIGHBOUR: 'it returns false'. Refute it at one input. -/
def codeBackWrong : ChangeSpec := { name := "codeBack", fn := fun _ => fun
  | [d1, d2] => { results := [.lit (.bool false)], args := [d1, d2] }
  | _ => none }
def CodeBackWrongFalsely : Prop := codeBackRow.holds Tryd.pinned (OpenSpec.ofChange codeBackWrong)

/-- 'factotumlaw13.CodeOperands': WHATEVER THE INPUT: true; the input reads as it did. -/
def codeOperandsSpec : ChangeSpec := { name := "codeOperands", fn := fun _ => fun
  | [d1, d2, d3] => { results := [.lit (.bool true)], args := [d1, d2, d3] }
  | _ => none }
def codeOperandsRow : OpenClaim := { program := "ytohcpgoiclapjaadoor", sum := "842a4dbbcda905128d5c8097126117b04cfc08d7eac788eb1864d0af053a9cc1", func := "factotum/factotumlaw13.CodeOperands", spec := "codeOperands", named := ["factotum/code.operands"], apart := false, laid := [("factotum/code.operands", laid_factotum_code_operands)] }
def CodeOperandsSaid : Prop := codeOperandsRow.holds Tryd.pinned (OpenSpec.ofChange codeOperandsSpec)

/-- ITS FALSE NEIGHBOUR: 'it returns false'. Refute it at one input. -/
def codeOperandsWrong : ChangeSpec := { name := "codeOperands", fn := fun _ => fun
  | [d1, d2, d3] => { results := [.lit (.bool false)], args := [d1, d2, d3] }
  | _ => none }
def CodeOperandsWrongFalsely : Prop := codeOperandsRow.holds Tryd.pinned (OpenSpec.ofChange codeOperandsWrong)

/-- 'factotumlaw13.CodeJoins': WHATEVER THE INPUT: true; the input reads as it did. -/
def codeJoinsSpec : ChangeSpec := { name := "codeJoins", fn := fun _ => fun
  | [d1, d2, d3] => { results := [.lit (.bool true)], args := [d1, d2, d3] }
  | _ => none }
def codeJoinsRow : OpenClaim := { program := "ytohcpgoiclapjaadoor", sum := "842a4dbbcda905128d5c8097126117b04cfc08d7eac788eb1864d0af053a9cc1", func := "factotum/factotumlaw13.CodeJoins", spec := "codeJoins", named := ["factotum/code.operands"], apart := false, laid := [("factotum/code.operands", laid_factotum_code_operands)] }
def CodeJoinsSaid : Prop := codeJoinsRow.holds Tryd.pinned (OpenSpec.ofChange codeJoinsSpec)

/-- ITS FALSE NEIGHBOUR: 'it returns false'. Refute it at one input. -/
def codeJoinsWrong : ChangeSpec := { name := "codeJoins", fn := fun _ => fun
  | [d1, d2, d3] => { results := [.lit (.bool false)], args := [d1, d2, d3] }
  | _ => none }
def CodeJoinsWrongFalsely : Prop := codeJoinsRow.holds Tryd.pinned (OpenSpec.ofChange codeJoinsWrong)

/- THE SECOND FORM. 'bulk': how many values and letters a reading holds, each counted each time it is reached (what is shared counts as often as it is met; a slice's spare places count too). A statement '..UptoSaid' is the law's where the arguments, and the package variables that the reading takes, are together of bulk at most 1048576: NARROWER than '..Said'. Prove '..Said' where nothing that the law and all that it calls make is longer than what came in: it says more and counts as full. Else prove '..UptoSaid'. A law counts once. -/
mutual
def uptoBulk {H : Type} : DataW H → Nat
  | .lit (.string bytes) => bytes.length + 1
  | .lit _ => 1
  | .nil => 1
  | .ptr d => uptoBulk d + 1
  | .slice elems spare => uptoBulkAll elems + uptoBulkAll spare + 1
  | .agg parts => uptoBulkAll parts + 1
  | .iface _ d => uptoBulk d + 1
  | .map entries => uptoBulkEntries entries + 1
  | .held _ => 1
def uptoBulkAll {H : Type} : List (DataW H) → Nat
  | [] => 0
  | d :: r => uptoBulk d + uptoBulkAll r
def uptoBulkEntries {H : Type} : List (Lit × DataW H) → Nat
  | [] => 0
  | x :: r => uptoBulkEntry x + uptoBulkEntries r
def uptoBulkEntry {H : Type} : Lit × DataW H → Nat
  | (.string bytes, d) => bytes.length + uptoBulk d + 1
  | (_, d) => uptoBulk d + 1
 end
def uptoSmall : (H : Type) → List (DataW H) → Bool := fun _ ds => decide (uptoBulkAll ds ≤ 1048576)
def OpenSpec.upto (s : _root_.Go.ChangeSpec) : _root_.Go.OpenSpec := { _root_.Go.OpenSpec.ofChange s with cond := some uptoSmall }

/-- 'factotumlaw13.CodeWrites', WHERE WHAT IT READS IS OF BULK AT MOST 1048576: true; the input reads as it did. -/
def codeWritesUptoRow : OpenClaim := { program := "ytohcpgoiclapjaadoor", sum := "842a4dbbcda905128d5c8097126117b04cfc08d7eac788eb1864d0af053a9cc1", func := "factotum/factotumlaw13.CodeWrites", spec := "codeWrites", named := ["factotum/code.operands"], apart := false, laid := [("factotum/code.operands", laid_factotum_code_operands)], narrowed := true }
def CodeWritesUptoSaid : Prop := codeWritesUptoRow.holds Tryd.pinned (OpenSpec.upto codeWritesSpec)

/-- 'factotumlaw13.CodeReads', WHERE WHAT IT READS IS OF BULK AT MOST 1048576: true; the input reads as it did. -/
def codeReadsUptoRow : OpenClaim := { program := "ytohcpgoiclapjaadoor", sum := "842a4dbbcda905128d5c8097126117b04cfc08d7eac788eb1864d0af053a9cc1", func := "factotum/factotumlaw13.CodeReads", spec := "codeReads", named := ["factotum/code.operands"], apart := false, laid := [("factotum/code.operands", laid_factotum_code_operands)], narrowed := true }
def CodeReadsUptoSaid : Prop := codeReadsUptoRow.holds Tryd.pinned (OpenSpec.upto codeReadsSpec)

/-- 'factotumlaw13.CodeBack', WHERE WHAT IT READS IS OF BULK AT MOST 1048576: true; the input reads as it did. -/
def codeBackUptoRow : OpenClaim := { program := "ytohcpgoiclapjaadoor", sum := "842a4dbbcda905128d5c8097126117b04cfc08d7eac788eb1864d0af053a9cc1", func := "factotum/factotumlaw13.CodeBack", spec := "codeBack", named := ["factotum/code.operands"], apart := false, laid := [("factotum/code.operands", laid_factotum_code_operands)], narrowed := true }
def CodeBackUptoSaid : Prop := codeBackUptoRow.holds Tryd.pinned (OpenSpec.upto codeBackSpec)

/-- 'factotumlaw13.CodeOperands', WHERE WHAT IT READS IS OF BULK AT MOST 1048576: true; the input reads as it did. -/
def codeOperandsUptoRow : OpenClaim := { program := "ytohcpgoiclapjaadoor", sum := "842a4dbbcda905128d5c8097126117b04cfc08d7eac788eb1864d0af053a9cc1", func := "factotum/factotumlaw13.CodeOperands", spec := "codeOperands", named := ["factotum/code.operands"], apart := false, laid := [("factotum/code.operands", laid_factotum_code_operands)], narrowed := true }
def CodeOperandsUptoSaid : Prop := codeOperandsUptoRow.holds Tryd.pinned (OpenSpec.upto codeOperandsSpec)

/-- 'factotumlaw13.CodeJoins', WHERE WHAT IT READS IS OF BULK AT MOST 1048576: true; the input reads as it did. -/
def codeJoinsUptoRow : OpenClaim := { program := "ytohcpgoiclapjaadoor", sum := "842a4dbbcda905128d5c8097126117b04cfc08d7eac788eb1864d0af053a9cc1", func := "factotum/factotumlaw13.CodeJoins", spec := "codeJoins", named := ["factotum/code.operands"], apart := false, laid := [("factotum/code.operands", laid_factotum_code_operands)], narrowed := true }
def CodeJoinsUptoSaid : Prop := codeJoinsUptoRow.holds Tryd.pinned (OpenSpec.upto codeJoinsSpec)

end Rows
end Go.Proofs.YtohcpgoiclapjaaDoor
