/- Contracts, over the turned program: a step of a script: what kind it is, and what it does to the program's device. Conditions: those that each theorem states. -/
import Derived.Test.YtgfijbbibafdfaaDLives
namespace Go.Proofs.Ytgfijbbibafdfaa
open Go.RowKit
set_option linter.unusedVariables false

/-- A step: its kind, its numbers, its text, and where its list of bools lies and what it holds. -/
structure OpD where
  k : Int
  i : Int
  s : ByteArray
  kv : Value
  l : List Bool
  c : Int
def OpD.cells (o : OpD) : Array Value := #[.int .i64 o.k, .int .i64 o.i, .string o.s, o.kv, .int .i64 o.c]
/-- It is sound, in a world whose blocks below B are those that came in. -/
def OpD.ok (o : OpD) (B : Nat) (w : World) : Prop := o.s.size ≤ maxLen ∧ Sl Value.bool B w o.kv o.l
theorem OpD.ok.kept {o : OpD} {B : Nat} {w w' : World} {S : Nat → Prop} (h : o.ok B w) (hk : Kp S w w') (hS : ∀ k, k < B → ¬ S k) : o.ok B w' := ⟨h.1, h.2.kept hk hS⟩
def OpD.kind (o : OpD) : Int := o.k % 4

theorem new_row (w : World) (cs : Array Value) (t : TypeId) : (w.alloc (.cells cs t)).heap[w.heap.size]? = some (.cells cs t (0, 0)) := heap_alloc_new w _
/-- What a step makes of a device, and answers. -/
def Dv.step (D : Dv) (o : OpD) : Dv := if o.kind = 0 then D.write o.i o.s else if o.kind = 1 then D.sync else if o.kind = 2 then D.stop o.i else D.crash o.l o.i o.c
def Dv.stepE (D : Dv) (o : OpD) : Int := if o.kind = 0 then wrE D o.i o.s else if o.kind = 1 then syE D else 0
theorem OpD.kinds (o : OpD) : o.kind = 0 ∨ o.kind = 1 ∨ o.kind = 2 ∨ o.kind = 3 := by unfold OpD.kind; omega

/-- A step of a device that isn't there. -/
def nilE (o : OpD) : Int := if o.kind < 2 then 1 else 0
end Go.Proofs.Ytgfijbbibafdfaa
