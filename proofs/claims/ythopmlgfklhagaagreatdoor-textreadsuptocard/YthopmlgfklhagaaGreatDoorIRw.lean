/- Contracts, over the turned program: the reference's one and Write of instructions make their bytes as the plain words say. Conditions: those that each theorem states. -/
import Derived.Test.YthopmlgfklhagaaGreatDoorIRef
import Derived.Test.YthopmlgfklhagaaGreatDoorIWr
namespace Go.Proofs.YthopmlgfklhagaaGreatDoor
open Go.RowKit
set_option linter.unusedVariables false

theorem str_byte (o : Int) : (⟨#[UInt8.ofNat o.toNat]⟩ : ByteArray) = mkB [byt o] := rfl
theorem opsB_snoc (x : In) (k : Nat) (hk : k < 3) : opsB (k + 1) x = opsB k x ++ [byt (x.fl k)] := by
  rcases (by omega : k = 0 ∨ k = 1 ∨ k = 2) with rfl | rfl | rfl <;> rfl
theorem cell_grown {w w' : World} {b o : Nat} {v : Value} (hg : w.grownBy w' none) (hc : w.cell? ⟨b, o, none⟩ = some v) : w'.cell? ⟨b, o, none⟩ = some v := (cell_same (hg.block b (lt_of_cell hc) (by simp)) o).trans hc

theorem encP_le (l : List In) (j : Nat) (h : l.length ≤ 64) : (encP (l.take j)).length ≤ 17280 := by
  have h1 := encP_len (l.take j)
  rw [List.length_take] at h1
  omega

end Go.Proofs.YthopmlgfklhagaaGreatDoor
