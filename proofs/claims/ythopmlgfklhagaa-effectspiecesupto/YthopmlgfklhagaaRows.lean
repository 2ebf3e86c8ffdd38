/-
  No cell of these rows narrows 'for every input' (looked for: loops, veiled, ifaces, maps, wideKeys, modest, calm, conditions, laid).
  DERIVED. THE GIVEN ROWS OF THIS SEAT. 5 by the template 'for every input the law returns true; each argument reads behind the call as it read before'; 0 by the template 'total and deterministic' (their statements: YthopmlgfklhagaaTotals.lean).
  GIVEN WITH THE SEED: the statements are not yours to turn. If you find one false, say at which input.
  Laid BY PROGRAM, IN A SANDBOX (cutbox-rows.mjs): the forced cells as the released guide's own fill.sh prints them over the translation cf9176e337ad4e3f… (all of the seat's roots in one cut). By AI agents, Wed Nov 11 2026. No macro, syntax, notation, axiom, sorry.
-/
import Derived.Test.YthopmlgfklhagaaChecked
import GoSem.Claim
import GoSem.ClaimJoined
import GoSem.ClaimMapViews
import Derived.JoinedTies
import Derived.KernelRfl
namespace Go.Proofs.Ythopmlgfklhagaa
/- THE CELL 'sum', in the pinned program and in every row, IS THE sha256 OF THE DUMP (.gsa) THAT YthopmlgfklhagaaProg.lean LOADS. Nothing in Lean hashes anything: it is a label: what it is worth is what the hold of that sum in a sandbox is worth. -/
noncomputable def Try.pinned : Pinned := { name := "ythopmlgfklhagaa", sum := "cf9176e337ad4e3f2a4755274c5cc970ca9d98ce697f87a8456b8da34986e0eb", checked := Try.checked }
namespace Rows
def none {H : Type} : Left H := { results := [], args := [] }

/-- 'factotumlaw17.EffectsValues': WHATEVER THE INPUT: true; the input reads as it did. -/
def effectsValuesSpec : ChangeSpec := { name := "effectsValues", fn := fun _ => fun
  | [d1, d2] => { results := [.lit (.bool true)], args := [d1, d2] }
  | _ => none }
def effectsValuesRow : OpenClaim := { program := "ythopmlgfklhagaa", sum := "cf9176e337ad4e3f2a4755274c5cc970ca9d98ce697f87a8456b8da34986e0eb", func := "factotum/factotumlaw17.EffectsValues", spec := "effectsValues", apart := false }
def EffectsValuesSaid : Prop := effectsValuesRow.holds Try.pinned (OpenSpec.ofChange effectsValuesSpec)

/-- ITS FALSE NEIGHBOUR: 'it returns false'. Refute it at one input. -/
def effectsValuesWrong : ChangeSpec := { name := "effectsValues", fn := fun _ => fun
  | [d1, d2] => { results := [.lit (.bool false)], args := [d1, d2] }
  | _ => none }
def EffectsValuesWrongFalsely : Prop := effectsValuesRow.holds Try.pinned (OpenSpec.ofChange effectsValuesWrong)

/-- 'factotumlaw17.EffectsRecords': WHATEVER THE INPUT: true; the input reads as it did. -/
def effectsRecordsSpec : ChangeSpec := { name := "effectsRecords", fn := fun _ => fun
  | [d1, d2] => { results := [.lit (.bool true)], args := [d1, d2] }
  | _ => none }
def effectsRecordsRow : OpenClaim := { program := "ythopmlgfklhagaa", sum := "cf9176e337ad4e3f2a4755274c5cc970ca9d98ce697f87a8456b8da34986e0eb", func := "factotum/factotumlaw17.EffectsRecords", spec := "effectsRecords", apart := false }
def EffectsRecordsSaid : Prop := effectsRecordsRow.holds Try.pinned (OpenSpec.ofChange effectsRecordsSpec)

/-- ITS FALSE NEIGHBOUR: 'it returns false'. Refute it at one input. -/
def effectsRecordsWrong : ChangeSpec := { name := "effectsRecords", fn := fun _ => fun
  | [d1, d2] => { results := [.lit (.bool false)], args := [d1, d2] }
  | _ => none }
def EffectsRecordsWrongFalsely : Prop := effectsRecordsRow.holds Try.pinned (OpenSpec.ofChange effectsRecordsWrong)

/-- 'factotumlaw17.EffectsReads': WHATEVER THE INPUT: true; the input reads as it did. -/
def effectsReadsSpec : ChangeSpec := { name := "effectsReads", fn := fun _ => fun
  | [d] => { results := [.lit (.bool true)], args := [d] }
  | _ => none }
def effectsReadsRow : OpenClaim := { program := "ythopmlgfklhagaa", sum := "cf9176e337ad4e3f2a4755274c5cc970ca9d98ce697f87a8456b8da34986e0eb", func := "factotum/factotumlaw17.EffectsReads", spec := "effectsReads", apart := false }
def EffectsReadsSaid : Prop := effectsReadsRow.holds Try.pinned (OpenSpec.ofChange effectsReadsSpec)

/-- ITS FALSE NEIGHBOUR: 'it returns false'. Refute it at one input. -/
def effectsReadsWrong : ChangeSpec := { name := "effectsReads", fn := fun _ => fun
  | [d] => { results := [.lit (.bool false)], args := [d] }
  | _ => none }
def EffectsReadsWrongFalsely : Prop := effectsReadsRow.holds Try.pinned (OpenSpec.ofChange effectsReadsWrong)

/-- 'factotumlaw17.EffectsBack': WHATEVER THE INPUT: true; the input reads as it did. -/
def effectsBackSpec : ChangeSpec := { name := "effectsBack", fn := fun _ => fun
  | [d1, d2] => { results := [.lit (.bool true)], args := [d1, d2] }
  | _ => none }
def effectsBackRow : OpenClaim := { program := "ythopmlgfklhagaa", sum := "cf9176e337ad4e3f2a4755274c5cc970ca9d98ce697f87a8456b8da34986e0eb", func := "factotum/factotumlaw17.EffectsBack", spec := "effectsBack", apart := false }
def EffectsBackSaid : Prop := effectsBackRow.holds Try.pinned (OpenSpec.ofChange effectsBackSpec)

/-- ITS FALSE NEIGHBOUR: 'it returns false'. Refute it at one input. -/
def effectsBackWrong : ChangeSpec := { name := "effectsBack", fn := fun _ => fun
  | [d1, d2] => { results := [.lit (.bool false)], args := [d1, d2] }
  | _ => none }
def EffectsBackWrongFalsely : Prop := effectsBackRow.holds Try.pinned (OpenSpec.ofChange effectsBackWrong)

/-- 'factotumlaw17.EffectsPieces': WHATEVER THE INPUT: true; the input reads as it did. -/
def effectsPiecesSpec : ChangeSpec := { name := "effectsPieces", fn := fun _ => fun
  | [d1, d2] => { results := [.lit (.bool true)], args := [d1, d2] }
  | _ => none }
def effectsPiecesRow : OpenClaim := { program := "ythopmlgfklhagaa", sum := "cf9176e337ad4e3f2a4755274c5cc970ca9d98ce697f87a8456b8da34986e0eb", func := "factotum/factotumlaw17.EffectsPieces", spec := "effectsPieces", inPlace := ["internal/abi.NoEscape", "internal/bytealg.MakeNoZero"], apart := false }
def EffectsPiecesSaid : Prop := effectsPiecesRow.holds Try.pinned (OpenSpec.ofChange effectsPiecesSpec)

/-- ITS FALSE NEIGHBOUR: 'it returns false'. Refute it at one input. -/
def effectsPiecesWrong : ChangeSpec := { name := "effectsPieces", fn := fun _ => fun
  | [d1, d2] => { results := [.lit (.bool false)], args := [d1, d2] }
  | _ => none }
def EffectsPiecesWrongFalsely : Prop := effectsPiecesRow.holds Try.pinned (OpenSpec.ofChange effectsPiecesWrong)

/- THE SECOND FORM. 'bulk': how many values and letters a reading holds, each counted each time it is reached (what is shared counts as often as it is met; a slice's spare places count too). A statement '..UptoSaid' is the law's where the arguments, and the package variables that the reading takes, are together of bulk at most 1048576: NARROWER than '..Said'. Prove '..Said' where nothing that the law and all that it calls make is longer than what came in: it says more and counts as full. Else prove '..UptoSaid'. A law counts once. -/
mutual
def uptoBulk {H : Type} : DataW H → Nat
  | .lit (.string bytes) => bytes.length + 1
  | .lit _ => 1
  | .nil => 1
  | .ptr d => uptoBulk d + 1
  | .slice elems spare => uptoBulkAll elems + uptoBulkAll spare + 1
  | .agg parts => uptoBulkAll parts + 1
  | .iface _ d => uptoBulk d + 1
  | .map entries => uptoBulkEntries entries + 1
  | .held _ => 1
def uptoBulkAll {H : Type} : List (DataW H) → Nat
  | [] => 0
  | d :: r => uptoBulk d + uptoBulkAll r
def uptoBulkEntries {H : Type} : List (Lit × DataW H) → Nat
  | [] => 0
  | x :: r => uptoBulkEntry x + uptoBulkEntries r
def uptoBulkEntry {H : Type} : Lit × DataW H → Nat
  | (.string bytes, d) => bytes.length + uptoBulk d + 1
  | (_, d) => uptoBulk d + 1
 end
def uptoSmall : (H : Type) → List (DataW H) → Bool := fun _ ds => decide (uptoBulkAll ds ≤ 1048576)
def OpenSpec.upto (s : _root_.Go.ChangeSpec) : _root_.Go.OpenSpec := { _root_.Go.OpenSpec.ofChange s with cond := some uptoSmall }

/-- 'factotumlaw17.EffectsValues', WHERE WHAT IT READS IS OF BULK AT MOST 1048576: true; the input reads as it did. -/
def effectsValuesUptoRow : OpenClaim := { program := "ythopmlgfklhagaa", sum := "cf9176e337ad4e3f2a4755274c5cc970ca9d98ce697f87a8456b8da34986e0eb", func := "factotum/factotumlaw17.EffectsValues", spec := "effectsValues", apart := false, narrowed := true }
def EffectsValuesUptoSaid : Prop := effectsValuesUptoRow.holds Try.pinned (OpenSpec.upto effectsValuesSpec)

/-- 'factotumlaw17.EffectsRecords', WHERE WHAT IT READS IS OF BULK AT MOST 1048576: true; the input reads as it did. -/
def effectsRecordsUptoRow : OpenClaim := { program := "ythopmlgfklhagaa", sum := "cf9176e337ad4e3f2a4755274c5cc970ca9d98ce697f87a8456b8da34986e0eb", func := "factotum/factotumlaw17.EffectsRecords", spec := "effectsRecords", apart := false, narrowed := true }
def EffectsRecordsUptoSaid : Prop := effectsRecordsUptoRow.holds Try.pinned (OpenSpec.upto effectsRecordsSpec)

/-- 'factotumlaw17.EffectsReads', WHERE WHAT IT READS IS OF BULK AT MOST 1048576: true; the input reads as it did. -/
def effectsReadsUptoRow : OpenClaim := { program := "ythopmlgfklhagaa", sum := "cf9176e337ad4e3f2a4755274c5cc970ca9d98ce697f87a8456b8da34986e0eb", func := "factotum/factotumlaw17.EffectsReads", spec := "effectsReads", apart := false, narrowed := true }
def EffectsReadsUptoSaid : Prop := effectsReadsUptoRow.holds Try.pinned (OpenSpec.upto effectsReadsSpec)

/-- 'factotumlaw17.EffectsBack', WHERE WHAT IT READS IS OF BULK AT MOST 1048576: true; the input reads as it did. -/
def effectsBackUptoRow : OpenClaim := { program := "ythopmlgfklhagaa", sum := "cf9176e337ad4e3f2a4755274c5cc970ca9d98ce697f87a8456b8da34986e0eb", func := "factotum/factotumlaw17.EffectsBack", spec := "effectsBack", apart := false, narrowed := true }
def EffectsBackUptoSaid : Prop := effectsBackUptoRow.holds Try.pinned (OpenSpec.upto effectsBackSpec)

/-- 'factotumlaw17.EffectsPieces', WHERE WHAT IT READS IS OF BULK AT MOST 1048576: true; the input reads as it did. -/
def effectsPiecesUptoRow : OpenClaim := { program := "ythopmlgfklhagaa", sum := "cf9176e337ad4e3f2a4755274c5cc970ca9d98ce697f87a8456b8da34986e0eb", func := "factotum/factotumlaw17.EffectsPieces", spec := "effectsPieces", inPlace := ["internal/abi.NoEscape", "internal/bytealg.MakeNoZero"], apart := false, narrowed := true }
def EffectsPiecesUptoSaid : Prop := effectsPiecesUptoRow.holds Try.pinned (OpenSpec.upto effectsPiecesSpec)

end Rows
end Go.Proofs.Ythopmlgfklhagaa
