/-
  No cell of these rows narrows 'for every input' (looked for: loops, veiled, ifaces, maps, wideKeys, modest, calm, conditions, laid).
  DERIVED. THE GIVEN ROWS OF THIS SEAT. 5 by the template 'for every input the law returns true; each argument reads behind the call as it read before'; 0 by the template 'total and deterministic' (their statements: YtlmdbhhaniodhaaTotals.lean).
  GIVEN WITH THE SEED: the statements are not yours to turn. If you find one false, say at which input.
  Laid BY PROGRAM, IN A SANDBOX (cutbox-rows.mjs): the forced cells as the released guide's own fill.sh prints them over the translation 61ef67de6a71b716… (all of the seat's roots in one cut). By AI agents, Wed Nov 11 2026. No macro, syntax, notation, axiom, sorry.
-/
import Derived.Test.YtlmdbhhaniodhaaChecked
import GoSem.Claim
import GoSem.ClaimJoined
import GoSem.ClaimMapViews
import Derived.JoinedTies
import Derived.KernelRfl
namespace Go.Proofs.Ytlmdbhhaniodhaa
/- THE CELL 'sum', in the pinned program and in every row, IS THE sha256 OF THE DUMP (.gsa) THAT YtlmdbhhaniodhaaProg.lean LOADS. Nothing in Lean hashes anything: it is a label: what it is worth is what the hold of that sum in a sandbox is worth. -/
noncomputable def Try.pinned : Pinned := { name := "ytlmdbhhaniodhaa", sum := "61ef67de6a71b716d8e3431ab258b7a27d374ef19adacc7053379d15aec92347", checked := Try.checked }
namespace Rows
def none {H : Type} : Left H := { results := [], args := [] }

/-- 'factotumlaw05.UndoDirectory': WHATEVER THE INPUT: true; the input reads as it did. -/
def undoDirectorySpec : ChangeSpec := { name := "undoDirectory", fn := fun _ => fun
  | [d1, d2] => { results := [.lit (.bool true)], args := [d1, d2] }
  | _ => none }
def undoDirectoryRow : OpenClaim := { program := "ytlmdbhhaniodhaa", sum := "61ef67de6a71b716d8e3431ab258b7a27d374ef19adacc7053379d15aec92347", func := "factotum/factotumlaw05.UndoDirectory", spec := "undoDirectory", apart := false }
def UndoDirectorySaid : Prop := undoDirectoryRow.holds Try.pinned (OpenSpec.ofChange undoDirectorySpec)

/-- ITS FALSE NEIGHBOUR: 'it returns false'. Refute it at one input. -/
def undoDirectoryWrong : ChangeSpec := { name := "undoDirectory", fn := fun _ => fun
  | [d1, d2] => { results := [.lit (.bool false)], args := [d1, d2] }
  | _ => none }
def UndoDirectoryWrongFalsely : Prop := undoDirectoryRow.holds Try.pinned (OpenSpec.ofChange undoDirectoryWrong)

/-- 'factotumlaw05.UndoBack': WHATEVER THE INPUT: true; the input reads as it did. -/
def undoBackSpec : ChangeSpec := { name := "undoBack", fn := fun _ => fun
  | [d1, d2] => { results := [.lit (.bool true)], args := [d1, d2] }
  | _ => none }
def undoBackRow : OpenClaim := { program := "ytlmdbhhaniodhaa", sum := "61ef67de6a71b716d8e3431ab258b7a27d374ef19adacc7053379d15aec92347", func := "factotum/factotumlaw05.UndoBack", spec := "undoBack", apart := false }
def UndoBackSaid : Prop := undoBackRow.holds Try.pinned (OpenSpec.ofChange undoBackSpec)

/-- ITS FALSE NEIGHBOUR: 'it returns false'. Refute it at one input. -/
def undoBackWrong : ChangeSpec := { name := "undoBack", fn := fun _ => fun
  | [d1, d2] => { results := [.lit (.bool false)], args := [d1, d2] }
  | _ => none }
def UndoBackWrongFalsely : Prop := undoBackRow.holds Try.pinned (OpenSpec.ofChange undoBackWrong)

/-- 'factotumlaw05.UndoCut': WHATEVER THE INPUT: true; the input reads as it did. -/
def undoCutSpec : ChangeSpec := { name := "undoCut", fn := fun _ => fun
  | [d1, d2] => { results := [.lit (.bool true)], args := [d1, d2] }
  | _ => none }
def undoCutRow : OpenClaim := { program := "ytlmdbhhaniodhaa", sum := "61ef67de6a71b716d8e3431ab258b7a27d374ef19adacc7053379d15aec92347", func := "factotum/factotumlaw05.UndoCut", spec := "undoCut", inPlace := ["internal/abi.NoEscape", "internal/bytealg.MakeNoZero"], apart := false }
def UndoCutSaid : Prop := undoCutRow.holds Try.pinned (OpenSpec.ofChange undoCutSpec)

/-- ITS FALSE NEIGHBOUR: 'it returns false'. Refute it at one input. -/
def undoCutWrong : ChangeSpec := { name := "undoCut", fn := fun _ => fun
  | [d1, d2] => { results := [.lit (.bool false)], args := [d1, d2] }
  | _ => none }
def UndoCutWrongFalsely : Prop := undoCutRow.holds Try.pinned (OpenSpec.ofChange undoCutWrong)

/-- 'factotumlaw05.UndoApart': WHATEVER THE INPUT: true; the input reads as it did. -/
def undoApartSpec : ChangeSpec := { name := "undoApart", fn := fun _ => fun
  | [d1, d2, d3] => { results := [.lit (.bool true)], args := [d1, d2, d3] }
  | _ => none }
def undoApartRow : OpenClaim := { program := "ytlmdbhhaniodhaa", sum := "61ef67de6a71b716d8e3431ab258b7a27d374ef19adacc7053379d15aec92347", func := "factotum/factotumlaw05.UndoApart", spec := "undoApart", apart := false }
def UndoApartSaid : Prop := undoApartRow.holds Try.pinned (OpenSpec.ofChange undoApartSpec)

/-- ITS FALSE NEIGHBOUR: 'it returns false'. Refute it at one input. -/
def undoApartWrong : ChangeSpec := { name := "undoApart", fn := fun _ => fun
  | [d1, d2, d3] => { results := [.lit (.bool false)], args := [d1, d2, d3] }
  | _ => none }
def UndoApartWrongFalsely : Prop := undoApartRow.holds Try.pinned (OpenSpec.ofChange undoApartWrong)

/-- 'factotumlaw05.UndoMark': WHATEVER THE INPUT: true; the input reads as it did. -/
def undoMarkSpec : ChangeSpec := { name := "undoMark", fn := fun _ => fun
  | [d1, d2, d3] => { results := [.lit (.bool true)], args := [d1, d2, d3] }
  | _ => none }
def undoMarkRow : OpenClaim := { program := "ytlmdbhhaniodhaa", sum := "61ef67de6a71b716d8e3431ab258b7a27d374ef19adacc7053379d15aec92347", func := "factotum/factotumlaw05.UndoMark", spec := "undoMark", apart := false }
def UndoMarkSaid : Prop := undoMarkRow.holds Try.pinned (OpenSpec.ofChange undoMarkSpec)

/-- ITS FALSE NEIGHBOUR: 'it returns false'. Refute it at one input. -/
def undoMarkWrong : ChangeSpec := { name := "undoMark", fn := fun _ => fun
  | [d1, d2, d3] => { results := [.lit (.bool false)], args := [d1, d2, d3] }
  | _ => none }
def UndoMarkWrongFalsely : Prop := undoMarkRow.holds Try.pinned (OpenSpec.ofChange undoMarkWrong)

/- THE SECOND FORM. 'bulk': how many values and letters a reading holds, each counted each time it is reached (what is shared counts as often as it is met; a slice's spare places count too). A statement '..UptoSaid' is the law's where the arguments, and the package variables that the reading takes, are together of bulk at most 1048576: NARROWER than '..Said'. Prove '..Said' where nothing that the law and all that it calls make is longer than what came in: it says more and counts as full. Else prove '..UptoSaid'. A law counts once. -/
mutual
def uptoBulk {H : Type} : DataW H → Nat
  | .lit (.string bytes) => bytes.length + 1
  | .lit _ => 1
  | .nil => 1
  | .ptr d => uptoBulk d + 1
  | .slice elems spare => uptoBulkAll elems + uptoBulkAll spare + 1
  | .agg parts => uptoBulkAll parts + 1
  | .iface _ d => uptoBulk d + 1
  | .map entries => uptoBulkEntries entries + 1
  | .held _ => 1
def uptoBulkAll {H : Type} : List (DataW H) → Nat
  | [] => 0
  | d :: r => uptoBulk d + uptoBulkAll r
def uptoBulkEntries {H : Type} : List (Lit × DataW H) → Nat
  | [] => 0
  | x :: r => uptoBulkEntry x + uptoBulkEntries r
def uptoBulkEntry {H : Type} : Lit × DataW H → Nat
  | (.string bytes, d) => bytes.length + uptoBulk d + 1
  | (_, d) => uptoBulk d + 1
 end
def uptoSmall : (H : Type) → List (DataW H) → Bool := fun _ ds => decide (uptoBulkAll ds ≤ 1048576)
def OpenSpec.upto (s : _root_.Go.ChangeSpec) : _root_.Go.OpenSpec := { _root_.Go.OpenSpec.ofChange s with cond := some uptoSmall }

/-- 'factotumlaw05.UndoDirectory', WHERE WHAT IT READS IS OF BULK AT MOST 1048576: true; the input reads as it did. -/
def undoDirectoryUptoRow : OpenClaim := { program := "ytlmdbhhaniodhaa", sum := "61ef67de6a71b716d8e3431ab258b7a27d374ef19adacc7053379d15aec92347", func := "factotum/factotumlaw05.UndoDirectory", spec := "undoDirectory", apart := false, narrowed := true }
def UndoDirectoryUptoSaid : Prop := undoDirectoryUptoRow.holds Try.pinned (OpenSpec.upto undoDirectorySpec)

/-- 'factotumlaw05.UndoBack', WHERE WHAT IT READS IS OF BULK AT MOST 1048576: true; the input reads as it did. -/
def undoBackUptoRow : OpenClaim := { program := "ytlmdbhhaniodhaa", sum := "61ef67de6a71b716d8e3431ab258b7a27d374ef19adacc7053379d15aec92347", func := "factotum/factotumlaw05.UndoBack", spec := "undoBack", apart := false, narrowed := true }
def UndoBackUptoSaid : Prop := undoBackUptoRow.holds Try.pinned (OpenSpec.upto undoBackSpec)

/-- 'factotumlaw05.UndoCut', WHERE WHAT IT READS IS OF BULK AT MOST 1048576: true; the input reads as it did. -/
def undoCutUptoRow : OpenClaim := { program := "ytlmdbhhaniodhaa", sum := "61ef67de6a71b716d8e3431ab258b7a27d374ef19adacc7053379d15aec92347", func := "factotum/factotumlaw05.UndoCut", spec := "undoCut", inPlace := ["internal/abi.NoEscape", "internal/bytealg.MakeNoZero"], apart := false, narrowed := true }
def UndoCutUptoSaid : Prop := undoCutUptoRow.holds Try.pinned (OpenSpec.upto undoCutSpec)

/-- 'factotumlaw05.UndoApart', WHERE WHAT IT READS IS OF BULK AT MOST 1048576: true; the input reads as it did. -/
def undoApartUptoRow : OpenClaim := { program := "ytlmdbhhaniodhaa", sum := "61ef67de6a71b716d8e3431ab258b7a27d374ef19adacc7053379d15aec92347", func := "factotum/factotumlaw05.UndoApart", spec := "undoApart", apart := false, narrowed := true }
def UndoApartUptoSaid : Prop := undoApartUptoRow.holds Try.pinned (OpenSpec.upto undoApartSpec)

/-- 'factotumlaw05.UndoMark', WHERE WHAT IT READS IS OF BULK AT MOST 1048576: true; the input reads as it did. -/
def undoMarkUptoRow : OpenClaim := { program := "ytlmdbhhaniodhaa", sum := "61ef67de6a71b716d8e3431ab258b7a27d374ef19adacc7053379d15aec92347", func := "factotum/factotumlaw05.UndoMark", spec := "undoMark", apart := false, narrowed := true }
def UndoMarkUptoSaid : Prop := undoMarkUptoRow.holds Try.pinned (OpenSpec.upto undoMarkSpec)

end Rows
end Go.Proofs.Ytlmdbhhaniodhaa
