/-
  No cell of these rows narrows 'for every input' (looked for: loops, veiled, ifaces, maps, wideKeys, modest, calm, conditions, laid).
  DERIVED. THE GIVEN ROWS OF THIS SEAT. 5 by the template 'for every input the law returns true; each argument reads behind the call as it read before'; 0 by the template 'total and deterministic' (their statements: YtamgnpmkmlhadaaTotals.lean).
  GIVEN WITH THE SEED: the statements are not yours to turn. If you find one false, say at which input.
  Laid BY PROGRAM, IN A SANDBOX (cutbox-rows.mjs): the forced cells as the released guide's own fill.sh prints them over the translation 8af6ffa10590e6df… (all of the seat's roots in one cut). By AI agents, Wed Nov 11 2026. No macro, syntax, notation, axiom, sorry.
-/
import Derived.Test.YtamgnpmkmlhadaaChecked
import GoSem.Claim
import GoSem.ClaimJoined
import GoSem.ClaimMapViews
import Derived.JoinedTies
import Derived.KernelRfl
namespace Go.Proofs.Ytamgnpmkmlhadaa
/- THE CELL 'sum', in the pinned program and in every row, IS THE sha256 OF THE DUMP (.gsa) THAT YtamgnpmkmlhadaaProg.lean LOADS. Nothing in Lean hashes anything: it is a label: what it is worth is what the hold of that sum in a sandbox is worth. -/
noncomputable def Try.pinned : Pinned := { name := "ytamgnpmkmlhadaa", sum := "8af6ffa10590e6dfb583a1174ec9f1d10869550a7a73635363e473bdec5568b9", checked := Try.checked }
namespace Rows
def none {H : Type} : Left H := { results := [], args := [] }

/-- 'factotumlaw19.OutboxBytes': WHATEVER THE INPUT: true; the input reads as it did. -/
def outboxBytesSpec : ChangeSpec := { name := "outboxBytes", fn := fun _ => fun
  | [d1, d2, d3] => { results := [.lit (.bool true)], args := [d1, d2, d3] }
  | _ => none }
def outboxBytesRow : OpenClaim := { program := "ytamgnpmkmlhadaa", sum := "8af6ffa10590e6dfb583a1174ec9f1d10869550a7a73635363e473bdec5568b9", func := "factotum/factotumlaw19.OutboxBytes", spec := "outboxBytes", apart := false }
def OutboxBytesSaid : Prop := outboxBytesRow.holds Try.pinned (OpenSpec.ofChange outboxBytesSpec)

/-- ITS FALSE NEIGHBOUR: 'it returns false'. Refute it at one input. -/
def outboxBytesWrong : ChangeSpec := { name := "outboxBytes", fn := fun _ => fun
  | [d1, d2, d3] => { results := [.lit (.bool false)], args := [d1, d2, d3] }
  | _ => none }
def OutboxBytesWrongFalsely : Prop := outboxBytesRow.holds Try.pinned (OpenSpec.ofChange outboxBytesWrong)

/-- 'factotumlaw19.OutboxPlays': WHATEVER THE INPUT: true; the input reads as it did. -/
def outboxPlaysSpec : ChangeSpec := { name := "outboxPlays", fn := fun _ => fun
  | [d] => { results := [.lit (.bool true)], args := [d] }
  | _ => none }
def outboxPlaysRow : OpenClaim := { program := "ytamgnpmkmlhadaa", sum := "8af6ffa10590e6dfb583a1174ec9f1d10869550a7a73635363e473bdec5568b9", func := "factotum/factotumlaw19.OutboxPlays", spec := "outboxPlays", apart := false }
def OutboxPlaysSaid : Prop := outboxPlaysRow.holds Try.pinned (OpenSpec.ofChange outboxPlaysSpec)

/-- ITS FALSE NEIGHBOUR: 'it returns false'. Refute it at one input. -/
def outboxPlaysWrong : ChangeSpec := { name := "outboxPlays", fn := fun _ => fun
  | [d] => { results := [.lit (.bool false)], args := [d] }
  | _ => none }
def OutboxPlaysWrongFalsely : Prop := outboxPlaysRow.holds Try.pinned (OpenSpec.ofChange outboxPlaysWrong)

/-- 'factotumlaw19.OutboxDense': WHATEVER THE INPUT: true; the input reads as it did. -/
def outboxDenseSpec : ChangeSpec := { name := "outboxDense", fn := fun _ => fun
  | [d] => { results := [.lit (.bool true)], args := [d] }
  | _ => none }
def outboxDenseRow : OpenClaim := { program := "ytamgnpmkmlhadaa", sum := "8af6ffa10590e6dfb583a1174ec9f1d10869550a7a73635363e473bdec5568b9", func := "factotum/factotumlaw19.OutboxDense", spec := "outboxDense", apart := false }
def OutboxDenseSaid : Prop := outboxDenseRow.holds Try.pinned (OpenSpec.ofChange outboxDenseSpec)

/-- ITS FALSE NEIGHBOUR: 'it returns false'. Refute it at one input. -/
def outboxDenseWrong : ChangeSpec := { name := "outboxDense", fn := fun _ => fun
  | [d] => { results := [.lit (.bool false)], args := [d] }
  | _ => none }
def OutboxDenseWrongFalsely : Prop := outboxDenseRow.holds Try.pinned (OpenSpec.ofChange outboxDenseWrong)

/-- 'factotumlaw19.OutboxParts': WHATEVER THE INPUT: true; the input reads as it did. -/
def outboxPartsSpec : ChangeSpec := { name := "outboxParts", fn := fun _ => fun
  | [d1, d2] => { results := [.lit (.bool true)], args := [d1, d2] }
  | _ => none }
def outboxPartsRow : OpenClaim := { program := "ytamgnpmkmlhadaa", sum := "8af6ffa10590e6dfb583a1174ec9f1d10869550a7a73635363e473bdec5568b9", func := "factotum/factotumlaw19.OutboxParts", spec := "outboxParts", apart := false }
def OutboxPartsSaid : Prop := outboxPartsRow.holds Try.pinned (OpenSpec.ofChange outboxPartsSpec)

/-- ITS FALSE NEIGHBOUR: 'it returns false'. Refute it at one input. -/
def outboxPartsWrong : ChangeSpec := { name := "outboxParts", fn := fun _ => fun
  | [d1, d2] => { results := [.lit (.bool false)], args := [d1, d2] }
  | _ => none }
def OutboxPartsWrongFalsely : Prop := outboxPartsRow.holds Try.pinned (OpenSpec.ofChange outboxPartsWrong)

/-- 'factotumlaw19.OutboxNil': WHATEVER THE INPUT: true; the input reads as it did. -/
def outboxNilSpec : ChangeSpec := { name := "outboxNil", fn := fun _ => fun
  | [d] => { results := [.lit (.bool true)], args := [d] }
  | _ => none }
def outboxNilRow : OpenClaim := { program := "ytamgnpmkmlhadaa", sum := "8af6ffa10590e6dfb583a1174ec9f1d10869550a7a73635363e473bdec5568b9", func := "factotum/factotumlaw19.OutboxNil", spec := "outboxNil", apart := false }
def OutboxNilSaid : Prop := outboxNilRow.holds Try.pinned (OpenSpec.ofChange outboxNilSpec)

/-- ITS FALSE NEIGHBOUR: 'it returns false'. Refute it at one input. -/
def outboxNilWrong : ChangeSpec := { name := "outboxNil", fn := fun _ => fun
  | [d] => { results := [.lit (.bool false)], args := [d] }
  | _ => none }
def OutboxNilWrongFalsely : Prop := outboxNilRow.holds Try.pinned (OpenSpec.ofChange outboxNilWrong)

/- THE SECOND FORM. 'bulk': how many values and letters a reading holds, each counted each time it is reached (what is shared counts as often as it is met; a slice's spare places count too). A statement '..UptoSaid' is the law's where the arguments, and the package variables that the reading takes, are together of bulk at most 1048576: NARROWER than '..Said'. Prove '..Said' where nothing that the law and all that it calls make is longer than what came in: it says more and counts as full. Else prove '..UptoSaid'. A law counts once. -/
mutual
def uptoBulk {H : Type} : DataW H → Nat
  | .lit (.string bytes) => bytes.length + 1
  | .lit _ => 1
  | .nil => 1
  | .ptr d => uptoBulk d + 1
  | .slice elems spare => uptoBulkAll elems + uptoBulkAll spare + 1
  | .agg parts => uptoBulkAll parts + 1
  | .iface _ d => uptoBulk d + 1
  | .map entries => uptoBulkEntries entries + 1
  | .held _ => 1
def uptoBulkAll {H : Type} : List (DataW H) → Nat
  | [] => 0
  | d :: r => uptoBulk d + uptoBulkAll r
def uptoBulkEntries {H : Type} : List (Lit × DataW H) → Nat
  | [] => 0
  | x :: r => uptoBulkEntry x + uptoBulkEntries r
def uptoBulkEntry {H : Type} : Lit × DataW H → Nat
  | (.string bytes, d) => bytes.length + uptoBulk d + 1
  | (_, d) => uptoBulk d + 1
 end
def uptoSmall : (H : Type) → List (DataW H) → Bool := fun _ ds => decide (uptoBulkAll ds ≤ 1048576)
def OpenSpec.upto (s : _root_.Go.ChangeSpec) : _root_.Go.OpenSpec := { _root_.Go.OpenSpec.ofChange s with cond := some uptoSmall }

/-- 'factotumlaw19.OutboxBytes', WHERE WHAT IT READS IS OF BULK AT MOST 1048576: true; the input reads as it did. -/
def outboxBytesUptoRow : OpenClaim := { program := "ytamgnpmkmlhadaa", sum := "8af6ffa10590e6dfb583a1174ec9f1d10869550a7a73635363e473bdec5568b9", func := "factotum/factotumlaw19.OutboxBytes", spec := "outboxBytes", apart := false, narrowed := true }
def OutboxBytesUptoSaid : Prop := outboxBytesUptoRow.holds Try.pinned (OpenSpec.upto outboxBytesSpec)

/-- 'factotumlaw19.OutboxPlays', WHERE WHAT IT READS IS OF BULK AT MOST 1048576: true; the input reads as it did. -/
def outboxPlaysUptoRow : OpenClaim := { program := "ytamgnpmkmlhadaa", sum := "8af6ffa10590e6dfb583a1174ec9f1d10869550a7a73635363e473bdec5568b9", func := "factotum/factotumlaw19.OutboxPlays", spec := "outboxPlays", apart := false, narrowed := true }
def OutboxPlaysUptoSaid : Prop := outboxPlaysUptoRow.holds Try.pinned (OpenSpec.upto outboxPlaysSpec)

/-- 'factotumlaw19.OutboxDense', WHERE WHAT IT READS IS OF BULK AT MOST 1048576: true; the input reads as it did. -/
def outboxDenseUptoRow : OpenClaim := { program := "ytamgnpmkmlhadaa", sum := "8af6ffa10590e6dfb583a1174ec9f1d10869550a7a73635363e473bdec5568b9", func := "factotum/factotumlaw19.OutboxDense", spec := "outboxDense", apart := false, narrowed := true }
def OutboxDenseUptoSaid : Prop := outboxDenseUptoRow.holds Try.pinned (OpenSpec.upto outboxDenseSpec)

/-- 'factotumlaw19.OutboxParts', WHERE WHAT IT READS IS OF BULK AT MOST 1048576: true; the input reads as it did. -/
def outboxPartsUptoRow : OpenClaim := { program := "ytamgnpmkmlhadaa", sum := "8af6ffa10590e6dfb583a1174ec9f1d10869550a7a73635363e473bdec5568b9", func := "factotum/factotumlaw19.OutboxParts", spec := "outboxParts", apart := false, narrowed := true }
def OutboxPartsUptoSaid : Prop := outboxPartsUptoRow.holds Try.pinned (OpenSpec.upto outboxPartsSpec)

/-- 'factotumlaw19.OutboxNil', WHERE WHAT IT READS IS OF BULK AT MOST 1048576: true; the input reads as it did. -/
def outboxNilUptoRow : OpenClaim := { program := "ytamgnpmkmlhadaa", sum := "8af6ffa10590e6dfb583a1174ec9f1d10869550a7a73635363e473bdec5568b9", func := "factotum/factotumlaw19.OutboxNil", spec := "outboxNil", apart := false, narrowed := true }
def OutboxNilUptoSaid : Prop := outboxNilUptoRow.holds Try.pinned (OpenSpec.upto outboxNilSpec)

end Rows
end Go.Proofs.Ytamgnpmkmlhadaa
