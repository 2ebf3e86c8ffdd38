/- What the arguments of layer 17's laws are, as they come in: a value, a record, effects. Conditions: those that each theorem states. -/
import Derived.Test.YtamgnpmkmlhadaaKOpen
import Derived.Test.YtamgnpmkmlhadaaELv
namespace Go.Proofs.Ytamgnpmkmlhadaa
open Go.ChangeShapes Go.WideShapes Go.ChangeAt Go.RowKit Go.Joins Go.Deep
set_option linter.unusedVariables false

theorem cellsI9 : Try.prog.cellsOf 3 = 1 := by kernel_rfl
theorem cellsVs9 : Try.prog.cellsOf 87 = 1 := by kernel_rfl
theorem irOf9 {n : Int} (h : (Lit.int .i64 n).wf = true) : ir n := by
  simp [Lit.wf, IntKind.min, IntKind.max, IntKind.signed, IntKind.bits] at h
  unfold ir
  omega
set_option maxRecDepth 100000 in
theorem open_valv9 {H : Type} {enc : TypeId × Value → H} {W : World} {base : Nat} {v : Value} {d : DataW H} {p : List MemPlace} (hok : Value.okWide Try.prog W .any base 24 v) (h : DataW.Trod enc Try.prog W 0 (fun _ => true) true 24 v d p) :
    ∃ x : V, v = x.val ∧ x.wf := by
  obtain ⟨cs, rfl, hsz⟩ := okWide_struct Try.underlying24 hok
  obtain ⟨fuel, hf⟩ := h
  obtain ⟨x, e, _, hx⟩ := open_val hf
  obtain ⟨l⟩ := cs
  simp [Value.cells] at e
  subst e
  exact ⟨x, rfl, hx⟩
theorem slice_of {H : Type} {enc : TypeId × Value → H} {W : World} {t e : TypeId} {n : Nat} {c : Value} {y : DataW H × List MemPlace} (ht : Try.prog.underlying t = some (.slice e)) (h : DataW.trod enc Try.prog W 0 (fun _ => true) true n t [c] = some y) : ∃ a0 len cap, c = .slice a0 len cap := by
  rcases open_slice ht h with ⟨hcs, _⟩ | ⟨a, l, c, _, _, _, _, hcs, _⟩
  · simp at hcs; exact ⟨_, _, _, hcs⟩
  · simp at hcs; exact ⟨_, _, _, hcs⟩
end Go.Proofs.Ytamgnpmkmlhadaa
