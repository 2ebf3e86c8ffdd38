/- What the arguments of layer 16's laws are, as they come in: a value. Conditions: those that each theorem states. -/
import Derived.Test.YthopmlgfklhagabDoorKOpen
import Derived.Test.YthopmlgfklhagabDoorIOpen
namespace Go.Proofs.YthopmlgfklhagabDoor
open Go.ChangeShapes Go.WideShapes Go.ChangeAt Go.RowKit Go.Joins Go.Deep
set_option linter.unusedVariables false

set_option maxRecDepth 100000 in
/-- A value that came in by value. -/
theorem open_valv {H : Type} {enc : TypeId × Value → H} {W : World} {base : Nat} {v : Value} {d : DataW H} {p : List MemPlace} (hok : Value.okWide Tryd.prog W .any base 25 v) (h : DataW.Trod enc Tryd.prog W 0 (fun _ => true) true 25 v d p) :
    ∃ x : V, v = x.val ∧ x.wf := by
  obtain ⟨cs, rfl, hsz⟩ := okWide_struct Tryd.underlying25 hok
  obtain ⟨fuel, hf⟩ := h
  obtain ⟨x, e, _, hx⟩ := open_val hf
  obtain ⟨l⟩ := cs
  simp [Value.cells] at e
  subst e
  exact ⟨x, rfl, hx⟩

end Go.Proofs.YthopmlgfklhagabDoor
