/- How a list of numbers that came in lies in memory: its reading opened. No conditions but those that the theorem states. -/
import Derived.Test.YtmnedhlgplkfhaaPOpenB
namespace Go.Proofs.Ytmnedhlgplkfhaa
open Go.ChangeShapes Go.WideShapes Go.ChangeAt Go.RowKit Go.Joins Go.Deep
set_option linter.unusedVariables false

set_option maxRecDepth 100000 in
theorem open_ints {H : Type} {enc : TypeId × Value → H} {W : World} {base : Nat} {v : Value} {d : DataW H} {p : List MemPlace} (hok : Value.okWide Try.prog W .any base 22 v) (h : DataW.Trod enc Try.prog W 0 (fun _ => true) true 22 v d p) :
    ∃ l : List Int, Sl (Value.int .i64) W.heap.size W v l ∧ i64s l := by
  obtain ⟨a0, len0, cap0, rfl⟩ := okWide_slice Try.underlying22 hok
  obtain ⟨fuel, hf⟩ := h
  obtain ⟨v, l, hcs, hS, hq, _⟩ := open_cells1 (Value.int .i64) (fun z => -9223372036854775808 ≤ z ∧ z < 9223372036854775808) Try.underlying22 (by kernel_rfl) (fun fuel cs x hx => by
    obtain ⟨k, e0, _, hw⟩ := DataW.trod_int Try.underlying3 hx
    exact ⟨k, e0, i64_wfB hw⟩) hf
  have e : Value.slice a0 len0 cap0 = v := by simpa [Value.cells] using hcs
  rw [e]
  exact ⟨l, hS, hq⟩

end Go.Proofs.Ytmnedhlgplkfhaa
