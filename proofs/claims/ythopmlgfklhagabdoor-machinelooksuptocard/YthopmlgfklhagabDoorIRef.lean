/- Contracts, over the turned program: the reference's Operands, Right, one and Write of instructions answer as the plain words say. Conditions: those that each theorem states. -/
import Derived.Test.YthopmlgfklhagabDoorIMay
import Derived.Test.YthopmlgfklhagabDoorKRef
import Derived.Test.YthopmlgfklhagabDoorRef
namespace Go.Proofs.YthopmlgfklhagabDoor
open Go.RowKit
set_option linter.unusedVariables false

/-- The three operands, as a slice. -/
theorem ab_new (w : World) (x y z : Int) (e : TypeId) (g : Nat) (hg : w.heap.size = g) : (w.alloc (.cells #[.int .i64 x, .int .i64 y, .int .i64 z] e)).cell? ⟨g, 0, none⟩ = some (.int .i64 x) ∧ (w.alloc (.cells #[.int .i64 x, .int .i64 y, .int .i64 z] e)).cell? ⟨g, 1, none⟩ = some (.int .i64 y) ∧ (w.alloc (.cells #[.int .i64 x, .int .i64 y, .int .i64 z] e)).cell? ⟨g, 2, none⟩ = some (.int .i64 z) := by
  subst hg
  refine ⟨?_, ?_, ?_⟩ <;> simp
theorem fl_cell {w : World} {g : Nat} {x : In} (h : w.cell? ⟨g, 0, none⟩ = some (.int .i64 x.a) ∧ w.cell? ⟨g, 1, none⟩ = some (.int .i64 x.b) ∧ w.cell? ⟨g, 2, none⟩ = some (.int .i64 x.c)) (k : Nat) (hk : k < 3) : w.cell? ⟨g, k, none⟩ = some (.int .i64 (x.fl k)) := by
  rcases (by omega : k = 0 ∨ k = 1 ∨ k = 2) with rfl | rfl | rfl
  · exact h.1
  · exact h.2.1
  · exact h.2.2
def fitZ (N : Int) (k : Nat) (o : Int) : Bool := byteOk o && (decide ((k : Int) < N) || o == 0)
theorem fitZ_eq (n k : Nat) (o : Int) : fitZ (n : Int) k o = fitO n k o := by
  unfold fitZ fitO
  congr 2
  rw [decide_eq_decide]
  omega
/-- The plain test, in the document's order. -/
theorem okI_bad (x : In) (ho : opOk x.op = false) : okI x = false := by unfold okI; rw [ho]; rfl

end Go.Proofs.YthopmlgfklhagabDoor
