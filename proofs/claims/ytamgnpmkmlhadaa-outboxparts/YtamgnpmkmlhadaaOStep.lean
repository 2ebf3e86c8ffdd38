/- A step of a script in a block of its own. Conditions: those that each theorem states. -/
import Derived.Test.YtamgnpmkmlhadaaOOpen
namespace Go.Proofs.Ytamgnpmkmlhadaa
open Go Go.RowKit
set_option linter.unusedVariables false

/-- A step in a block. -/
def Ob (w : World) (b : Nat) (o : Oo) : Prop := w.heap[b]? = some (.cells #[.int .i64 o.kd, .int .i64 o.n, .int .i64 o.k, .int .i64 o.m.q, .int .i64 o.m.f, .int .i64 o.m.t, .int .i64 o.m.v.k, .int .i64 o.m.v.n, .string o.m.v.s] 43 (0, 0))
theorem Ob.cs {w : World} {b : Nat} {o : Oo} (h : Ob w b o) : w.cell? ⟨b, 0, none⟩ = some (.int .i64 o.kd) ∧ w.cell? ⟨b, 1, none⟩ = some (.int .i64 o.n) ∧ w.cell? ⟨b, 2, none⟩ = some (.int .i64 o.k) ∧ w.cell? ⟨b, 3, none⟩ = some (.int .i64 o.m.q) ∧ w.cell? ⟨b, 4, none⟩ = some (.int .i64 o.m.f) ∧ w.cell? ⟨b, 5, none⟩ = some (.int .i64 o.m.t) ∧ w.cell? ⟨b, 6, none⟩ = some (.int .i64 o.m.v.k) ∧ w.cell? ⟨b, 7, none⟩ = some (.int .i64 o.m.v.n) ∧ w.cell? ⟨b, 8, none⟩ = some (.string o.m.v.s) := by
  refine ⟨?_, ?_, ?_, ?_, ?_, ?_, ?_, ?_, ?_⟩
  · rw [cell_of_row w b 0 _ 43 (0, 0) h]; rfl
  · rw [cell_of_row w b 1 _ 43 (0, 0) h]; rfl
  · rw [cell_of_row w b 2 _ 43 (0, 0) h]; rfl
  · rw [cell_of_row w b 3 _ 43 (0, 0) h]; rfl
  · rw [cell_of_row w b 4 _ 43 (0, 0) h]; rfl
  · rw [cell_of_row w b 5 _ 43 (0, 0) h]; rfl
  · rw [cell_of_row w b 6 _ 43 (0, 0) h]; rfl
  · rw [cell_of_row w b 7 _ 43 (0, 0) h]; rfl
  · rw [cell_of_row w b 8 _ 43 (0, 0) h]; rfl
theorem Ob.lt {w : World} {b : Nat} {o : Oo} (h : Ob w b o) : b < w.heap.size := (Array.getElem?_eq_some_iff.1 h).1
theorem Ob.kept {S : Nat → Prop} {w w' : World} {b : Nat} {o : Oo} (h : Ob w b o) (hk : Kp S w w') (hS : ¬ S b) : Ob w' b o := by
  unfold Ob
  rw [hk.block b h.lt hS]
  exact h
theorem Ob.keptN {w w' : World} {b : Nat} {o : Oo} (h : Ob w b o) (hk : Kp none' w w') : Ob w' b o := h.kept hk (fun h => h)
theorem Ob.new (w : World) (o : Oo) : Ob (w.alloc (.cells #[.int .i64 o.kd, .int .i64 o.n, .int .i64 o.k, .int .i64 o.m.q, .int .i64 o.m.f, .int .i64 o.m.t, .int .i64 o.m.v.k, .int .i64 o.m.v.n, .string o.m.v.s] 43)) w.heap.size o := heap_alloc_new w _
theorem Ob.mk (w : World) (o : Oo) : ∃ W, w.alloc (.cells #[.int .i64 o.kd, .int .i64 o.n, .int .i64 o.k, .int .i64 o.m.q, .int .i64 o.m.f, .int .i64 o.m.t, .int .i64 o.m.v.k, .int .i64 o.m.v.n, .string o.m.v.s] 43) = W ∧ Ob W w.heap.size o ∧ Kp none' w W := ⟨_, rfl, Ob.new w o, Kp.alloc _ _ _⟩

end Go.Proofs.Ytamgnpmkmlhadaa
