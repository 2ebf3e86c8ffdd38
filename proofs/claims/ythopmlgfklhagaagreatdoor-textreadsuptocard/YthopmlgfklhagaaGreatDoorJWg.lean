/- Two digits as a byte, in plain words (no program). No conditions but those that each theorem states. -/
import Derived.Test.YthopmlgfklhagaaGreatDoorJLine
import Derived.Lib.IndexLaws
namespace Go.Proofs.YthopmlgfklhagaaGreatDoor
open Go Go.RowKit
set_option linter.unusedVariables false

theorem hexL_cons (c : UInt8) (y : List UInt8) : hexL (c :: y) = hexD (c.toNat / 16) :: hexD (c.toNat % 16) :: hexL y := rfl
theorem hexL_at : ∀ (y : List UInt8) (j : Nat) (h : j < y.length), (hexL y)[2 * j]? = some (hexD (y[j].toNat / 16)) ∧ (hexL y)[2 * j + 1]? = some (hexD (y[j].toNat % 16))
  | [], j, h => absurd h (by simp)
  | c :: y, 0, h => ⟨rfl, rfl⟩
  | c :: y, j + 1, h => by
    have ih := hexL_at y j (by simpa using h)
    rw [hexL_cons, show 2 * (j + 1) = 2 * j + 1 + 1 by omega]
    exact ih
def digL : List UInt8 := [48, 49, 50, 51, 52, 53, 54, 55, 56, 57, 97, 98, 99, 100, 101, 102]
def ixU (c : UInt8) : Int := Lib.indexByte digL c
theorem ix_hex (n : Nat) (h : n < 16) : ixU (hexD n) = (n : Int) := by
  have key : ∀ n : Fin 16, ixU (hexD n.1) = (n.1 : Int) := by decide +kernel
  exact key ⟨n, h⟩
theorem or_nib (c : UInt8) : IntKind.u8.wrap (bits BinOp.or IntKind.i64 (((c.toNat / 16 : Nat) : Int) * 16) ((c.toNat % 16 : Nat) : Int)) = (c.toNat : Int) := by
  have key : ∀ n : Fin 256, IntKind.u8.wrap (bits BinOp.or IntKind.i64 (((n.1 / 16 : Nat) : Int) * 16) ((n.1 % 16 : Nat) : Int)) = (n.1 : Int) := by decide +kernel
  exact key ⟨c.toNat, c.toNat_lt⟩

end Go.Proofs.YthopmlgfklhagaaGreatDoor
