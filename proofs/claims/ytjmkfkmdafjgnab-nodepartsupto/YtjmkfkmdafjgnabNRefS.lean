/- Contracts, over the turned program: what the document's Size and ordered answer. Conditions: those that each theorem states. -/
import Derived.Test.YtjmkfkmdafjgnabNRef
namespace Go.Proofs.Ytjmkfkmdafjgnab
open Go Go.RowKit
set_option linter.unusedVariables false

theorem wrap_add (a b : Int) : wrap64 (wrap64 a + wrap64 b) = wrap64 (a + b) := by unfold wrap64; omega
theorem wrap_addl (a b : Int) : wrap64 (wrap64 a + b) = wrap64 (a + b) := by unfold wrap64; omega
theorem sum_take (f : Pr → Nat) (l : List Pr) (j : Nat) (h : j < l.length) : ((l.take (j + 1)).map f).sum = ((l.take j).map f).sum + f l[j] := by
  rw [List.take_succ_eq_append_getElem h, List.map_append, List.sum_append]; simp
theorem sum_takeK (f : ByteArray → Nat) (l : List ByteArray) (j : Nat) (h : j < l.length) : ((l.take (j + 1)).map f).sum = ((l.take j).map f).sum + f l[j] := by
  rw [List.take_succ_eq_append_getElem h, List.map_append, List.sum_append]; simp

end Go.Proofs.Ytjmkfkmdafjgnab
