/- The arguments of the laws of layer 7, opened: steps, a pair of sizes; the laws' early. Conditions: those that each theorem states. -/
import Derived.Test.YtmnedhlgplkfhaaGreatPOpenB
namespace Go.Proofs.YtmnedhlgplkfhaaGreat
open Go.ChangeShapes Go.WideShapes Go.ChangeAt Go.RowKit Go.Joins
set_option linter.unusedVariables false

/-- A step: a page, a byte, whether it is a commit. -/
structure Cop where
  n : Int
  b : UInt8
  wr : Bool
def Cop.cells (o : Cop) : Array Value := #[.int .i64 o.n, .int .u8 (o.b.toNat : Int), .bool o.wr]
def Cop.ok (o : Cop) : Prop := -9223372036854775808 ≤ o.n ∧ o.n < 9223372036854775808
theorem trod_struct3 {H : Type} {enc : TypeId × Value → H} {P : Program} {w : World} {base : Nat} {spare : Nat → Bool} {held : Bool} {t : TypeId} {f0 f1 f2 : Field} {fuel : Nat} {cs : List Value} {x : DataW H × List MemPlace} (ht : P.underlying t = some (.struct #[f0, f1, f2])) (h : DataW.trod enc P w base spare held fuel t cs = some x) :
    ∃ y0 y1 y2 n, cs.length = P.cellsOf t ∧ DataW.trod enc P w base spare held n f0.type ((cs.drop f0.offset).take (P.cellsOf f0.type)) = some y0 ∧
      DataW.trod enc P w base spare held n f1.type ((cs.drop f1.offset).take (P.cellsOf f1.type)) = some y1 ∧ DataW.trod enc P w base spare held n f2.type ((cs.drop f2.offset).take (P.cellsOf f2.type)) = some y2 := by
  obtain ⟨xs, n, _, rfl, hl, hlen, hf⟩ := DataW.trod_struct ht h
  match xs, hlen with
  | [y0, y1, y2], _ => exact ⟨y0, y1, y2, n, hl, by simpa using hf 0 f0 rfl, by simpa using hf 1 f1 rfl, by simpa using hf 2 f2 rfl⟩
theorem cellsU8c : Tryz.prog.cellsOf 5 = 1 := by kernel_rfl
theorem cellsBoc : Tryz.prog.cellsOf 4 = 1 := by kernel_rfl
end Go.Proofs.YtmnedhlgplkfhaaGreat
