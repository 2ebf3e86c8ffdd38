/-
  No cell of these rows narrows 'for every input' (looked for: loops, veiled, ifaces, maps, wideKeys, modest, calm, conditions, laid).
  DERIVED. THE GIVEN ROWS OF THIS SEAT. 6 by the template 'for every input the law returns true; each argument reads behind the call as it read before'; 0 by the template 'total and deterministic' (their statements: YtahpfedcaicohaaTotals.lean).
  GIVEN WITH THE SEED: the statements are not yours to turn. If you find one false, say at which input.
  Laid BY PROGRAM, IN A SANDBOX (cutbox-rows.mjs): the forced cells as the released guide's own fill.sh prints them over the translation c4822f02554c9260… (all of the seat's roots in one cut). By AI agents, Wed Nov 11 2026. No macro, syntax, notation, axiom, sorry.
-/
import Derived.Test.YtahpfedcaicohaaChecked
import GoSem.Claim
import GoSem.ClaimJoined
import GoSem.ClaimMapViews
import Derived.JoinedTies
import Derived.KernelRfl
namespace Go.Proofs.Ytahpfedcaicohaa
/- THE CELL 'sum', in the pinned program and in every row, IS THE sha256 OF THE DUMP (.gsa) THAT YtahpfedcaicohaaProg.lean LOADS. Nothing in Lean hashes anything: it is a label: what it is worth is what the hold of that sum in a sandbox is worth. -/
noncomputable def Try.pinned : Pinned := { name := "ytahpfedcaicohaa", sum := "c4822f02554c9260e394eaa096f418a477c463a35b134470b9b7243030b18748", checked := Try.checked }
namespace Rows
def none {H : Type} : Left H := { results := [], args := [] }

/-- 'factotumlaw02.KeysWrite': WHATEVER THE INPUT: true; the input reads as it did. -/
def keysWriteSpec : ChangeSpec := { name := "keysWrite", fn := fun _ => fun
  | [d] => { results := [.lit (.bool true)], args := [d] }
  | _ => none }
def keysWriteRow : OpenClaim := { program := "ytahpfedcaicohaa", sum := "c4822f02554c9260e394eaa096f418a477c463a35b134470b9b7243030b18748", func := "factotum/factotumlaw02.KeysWrite", spec := "keysWrite", apart := false }
def KeysWriteSaid : Prop := keysWriteRow.holds Try.pinned (OpenSpec.ofChange keysWriteSpec)

/-- ITS FALSE NEIGHBOUR: 'it returns false'. Refute it at one input. -/
def keysWriteWrong : ChangeSpec := { name := "keysWrite", fn := fun _ => fun
  | [d] => { results := [.lit (.bool false)], args := [d] }
  | _ => none }
def KeysWriteWrongFalsely : Prop := keysWriteRow.holds Try.pinned (OpenSpec.ofChange keysWriteWrong)

/-- 'factotumlaw02.KeysRead': WHATEVER THE INPUT: true; the input reads as it did. -/
def keysReadSpec : ChangeSpec := { name := "keysRead", fn := fun _ => fun
  | [d] => { results := [.lit (.bool true)], args := [d] }
  | _ => none }
def keysReadRow : OpenClaim := { program := "ytahpfedcaicohaa", sum := "c4822f02554c9260e394eaa096f418a477c463a35b134470b9b7243030b18748", func := "factotum/factotumlaw02.KeysRead", spec := "keysRead", apart := false }
def KeysReadSaid : Prop := keysReadRow.holds Try.pinned (OpenSpec.ofChange keysReadSpec)

/-- ITS FALSE NEIGHBOUR: 'it returns false'. Refute it at one input. -/
def keysReadWrong : ChangeSpec := { name := "keysRead", fn := fun _ => fun
  | [d] => { results := [.lit (.bool false)], args := [d] }
  | _ => none }
def KeysReadWrongFalsely : Prop := keysReadRow.holds Try.pinned (OpenSpec.ofChange keysReadWrong)

/-- 'factotumlaw02.KeysBack': WHATEVER THE INPUT: true; the input reads as it did. -/
def keysBackSpec : ChangeSpec := { name := "keysBack", fn := fun _ => fun
  | [d1, d2] => { results := [.lit (.bool true)], args := [d1, d2] }
  | _ => none }
def keysBackRow : OpenClaim := { program := "ytahpfedcaicohaa", sum := "c4822f02554c9260e394eaa096f418a477c463a35b134470b9b7243030b18748", func := "factotum/factotumlaw02.KeysBack", spec := "keysBack", apart := false }
def KeysBackSaid : Prop := keysBackRow.holds Try.pinned (OpenSpec.ofChange keysBackSpec)

/-- ITS FALSE NEIGHBOUR: 'it returns false'. Refute it at one input. -/
def keysBackWrong : ChangeSpec := { name := "keysBack", fn := fun _ => fun
  | [d1, d2] => { results := [.lit (.bool false)], args := [d1, d2] }
  | _ => none }
def KeysBackWrongFalsely : Prop := keysBackRow.holds Try.pinned (OpenSpec.ofChange keysBackWrong)

/-- 'factotumlaw02.KeysOrder': WHATEVER THE INPUT: true; the input reads as it did. -/
def keysOrderSpec : ChangeSpec := { name := "keysOrder", fn := fun _ => fun
  | [d1, d2] => { results := [.lit (.bool true)], args := [d1, d2] }
  | _ => none }
def keysOrderRow : OpenClaim := { program := "ytahpfedcaicohaa", sum := "c4822f02554c9260e394eaa096f418a477c463a35b134470b9b7243030b18748", func := "factotum/factotumlaw02.KeysOrder", spec := "keysOrder", inPlace := ["internal/bytealg.abigen_runtime_cmpstring"], unfollowed := true, recurses := true, apart := false }
def KeysOrderSaid : Prop := keysOrderRow.holds Try.pinned (OpenSpec.ofChange keysOrderSpec)

/-- ITS FALSE NEIGHBOUR: 'it returns false'. Refute it at one input. -/
def keysOrderWrong : ChangeSpec := { name := "keysOrder", fn := fun _ => fun
  | [d1, d2] => { results := [.lit (.bool false)], args := [d1, d2] }
  | _ => none }
def KeysOrderWrongFalsely : Prop := keysOrderRow.holds Try.pinned (OpenSpec.ofChange keysOrderWrong)

/-- 'factotumlaw02.KeysCompare': WHATEVER THE INPUT: true; the input reads as it did. -/
def keysCompareSpec : ChangeSpec := { name := "keysCompare", fn := fun _ => fun
  | [d1, d2] => { results := [.lit (.bool true)], args := [d1, d2] }
  | _ => none }
def keysCompareRow : OpenClaim := { program := "ytahpfedcaicohaa", sum := "c4822f02554c9260e394eaa096f418a477c463a35b134470b9b7243030b18748", func := "factotum/factotumlaw02.KeysCompare", spec := "keysCompare", inPlace := ["internal/bytealg.abigen_runtime_cmpstring"], unfollowed := true, recurses := true, apart := false }
def KeysCompareSaid : Prop := keysCompareRow.holds Try.pinned (OpenSpec.ofChange keysCompareSpec)

/-- ITS FALSE NEIGHBOUR: 'it returns false'. Refute it at one input. -/
def keysCompareWrong : ChangeSpec := { name := "keysCompare", fn := fun _ => fun
  | [d1, d2] => { results := [.lit (.bool false)], args := [d1, d2] }
  | _ => none }
def KeysCompareWrongFalsely : Prop := keysCompareRow.holds Try.pinned (OpenSpec.ofChange keysCompareWrong)

/-- 'factotumlaw02.KeysHeads': WHATEVER THE INPUT: true; the input reads as it did. -/
def keysHeadsSpec : ChangeSpec := { name := "keysHeads", fn := fun _ => fun
  | [d1, d2] => { results := [.lit (.bool true)], args := [d1, d2] }
  | _ => none }
def keysHeadsRow : OpenClaim := { program := "ytahpfedcaicohaa", sum := "c4822f02554c9260e394eaa096f418a477c463a35b134470b9b7243030b18748", func := "factotum/factotumlaw02.KeysHeads", spec := "keysHeads", apart := false }
def KeysHeadsSaid : Prop := keysHeadsRow.holds Try.pinned (OpenSpec.ofChange keysHeadsSpec)

/-- ITS FALSE NEIGHBOUR: 'it returns false'. Refute it at one input. -/
def keysHeadsWrong : ChangeSpec := { name := "keysHeads", fn := fun _ => fun
  | [d1, d2] => { results := [.lit (.bool false)], args := [d1, d2] }
  | _ => none }
def KeysHeadsWrongFalsely : Prop := keysHeadsRow.holds Try.pinned (OpenSpec.ofChange keysHeadsWrong)

/- THE SECOND FORM. 'bulk': how many values and letters a reading holds, each counted each time it is reached (what is shared counts as often as it is met; a slice's spare places count too). A statement '..UptoSaid' is the law's where the arguments, and the package variables that the reading takes, are together of bulk at most 1048576: NARROWER than '..Said'. Prove '..Said' where nothing that the law and all that it calls make is longer than what came in: it says more and counts as full. Else prove '..UptoSaid'. A law counts once. -/
mutual
def uptoBulk {H : Type} : DataW H → Nat
  | .lit (.string bytes) => bytes.length + 1
  | .lit _ => 1
  | .nil => 1
  | .ptr d => uptoBulk d + 1
  | .slice elems spare => uptoBulkAll elems + uptoBulkAll spare + 1
  | .agg parts => uptoBulkAll parts + 1
  | .iface _ d => uptoBulk d + 1
  | .map entries => uptoBulkEntries entries + 1
  | .held _ => 1
def uptoBulkAll {H : Type} : List (DataW H) → Nat
  | [] => 0
  | d :: r => uptoBulk d + uptoBulkAll r
def uptoBulkEntries {H : Type} : List (Lit × DataW H) → Nat
  | [] => 0
  | x :: r => uptoBulkEntry x + uptoBulkEntries r
def uptoBulkEntry {H : Type} : Lit × DataW H → Nat
  | (.string bytes, d) => bytes.length + uptoBulk d + 1
  | (_, d) => uptoBulk d + 1
 end
def uptoSmall : (H : Type) → List (DataW H) → Bool := fun _ ds => decide (uptoBulkAll ds ≤ 1048576)
def OpenSpec.upto (s : _root_.Go.ChangeSpec) : _root_.Go.OpenSpec := { _root_.Go.OpenSpec.ofChange s with cond := some uptoSmall }

/-- 'factotumlaw02.KeysWrite', WHERE WHAT IT READS IS OF BULK AT MOST 1048576: true; the input reads as it did. -/
def keysWriteUptoRow : OpenClaim := { program := "ytahpfedcaicohaa", sum := "c4822f02554c9260e394eaa096f418a477c463a35b134470b9b7243030b18748", func := "factotum/factotumlaw02.KeysWrite", spec := "keysWrite", apart := false, narrowed := true }
def KeysWriteUptoSaid : Prop := keysWriteUptoRow.holds Try.pinned (OpenSpec.upto keysWriteSpec)

/-- 'factotumlaw02.KeysRead', WHERE WHAT IT READS IS OF BULK AT MOST 1048576: true; the input reads as it did. -/
def keysReadUptoRow : OpenClaim := { program := "ytahpfedcaicohaa", sum := "c4822f02554c9260e394eaa096f418a477c463a35b134470b9b7243030b18748", func := "factotum/factotumlaw02.KeysRead", spec := "keysRead", apart := false, narrowed := true }
def KeysReadUptoSaid : Prop := keysReadUptoRow.holds Try.pinned (OpenSpec.upto keysReadSpec)

/-- 'factotumlaw02.KeysBack', WHERE WHAT IT READS IS OF BULK AT MOST 1048576: true; the input reads as it did. -/
def keysBackUptoRow : OpenClaim := { program := "ytahpfedcaicohaa", sum := "c4822f02554c9260e394eaa096f418a477c463a35b134470b9b7243030b18748", func := "factotum/factotumlaw02.KeysBack", spec := "keysBack", apart := false, narrowed := true }
def KeysBackUptoSaid : Prop := keysBackUptoRow.holds Try.pinned (OpenSpec.upto keysBackSpec)

/-- 'factotumlaw02.KeysOrder', WHERE WHAT IT READS IS OF BULK AT MOST 1048576: true; the input reads as it did. -/
def keysOrderUptoRow : OpenClaim := { program := "ytahpfedcaicohaa", sum := "c4822f02554c9260e394eaa096f418a477c463a35b134470b9b7243030b18748", func := "factotum/factotumlaw02.KeysOrder", spec := "keysOrder", inPlace := ["internal/bytealg.abigen_runtime_cmpstring"], unfollowed := true, recurses := true, apart := false, narrowed := true }
def KeysOrderUptoSaid : Prop := keysOrderUptoRow.holds Try.pinned (OpenSpec.upto keysOrderSpec)

/-- 'factotumlaw02.KeysCompare', WHERE WHAT IT READS IS OF BULK AT MOST 1048576: true; the input reads as it did. -/
def keysCompareUptoRow : OpenClaim := { program := "ytahpfedcaicohaa", sum := "c4822f02554c9260e394eaa096f418a477c463a35b134470b9b7243030b18748", func := "factotum/factotumlaw02.KeysCompare", spec := "keysCompare", inPlace := ["internal/bytealg.abigen_runtime_cmpstring"], unfollowed := true, recurses := true, apart := false, narrowed := true }
def KeysCompareUptoSaid : Prop := keysCompareUptoRow.holds Try.pinned (OpenSpec.upto keysCompareSpec)

/-- 'factotumlaw02.KeysHeads', WHERE WHAT IT READS IS OF BULK AT MOST 1048576: true; the input reads as it did. -/
def keysHeadsUptoRow : OpenClaim := { program := "ytahpfedcaicohaa", sum := "c4822f02554c9260e394eaa096f418a477c463a35b134470b9b7243030b18748", func := "factotum/factotumlaw02.KeysHeads", spec := "keysHeads", apart := false, narrowed := true }
def KeysHeadsUptoSaid : Prop := keysHeadsUptoRow.holds Try.pinned (OpenSpec.upto keysHeadsSpec)

end Rows
end Go.Proofs.Ytahpfedcaicohaa
