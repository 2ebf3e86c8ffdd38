/- Contracts, over the turned program: the reference's Right, Write, Read and Same of tuples answer as the plain words say. Conditions: those that each theorem states. -/
import Derived.Test.YthopmlgfklhagabDoorKParse
import Derived.Test.YthopmlgfklhagabDoorKWrite
import Derived.Test.YthopmlgfklhagabDoorKRead
import Derived.Test.YthopmlgfklhagabDoorRefRead
namespace Go.Proofs.YthopmlgfklhagabDoor
open Go.RowKit
set_option linter.unusedVariables false

theorem mkB_append (a b : List UInt8) : mkB a ++ mkB b = mkB (a ++ b) := by
  apply ByteArray.ext
  apply Array.ext'
  rw [ByteArray.data_append]
  simp [mkB]
theorem ext_one (s : ByteArray) (j : Nat) (h : j < s.size) : s.extract j (j + 1) = mkB [s[j]] := by
  apply ByteArray.ext
  apply Array.ext'
  rw [ext_list, mkB_list]
  have h2 : j < s.data.toList.length := by simpa using h
  rw [show j + 1 - j = 1 by omega, List.drop_eq_getElem_cons h2]
  simp
  rfl

end Go.Proofs.YthopmlgfklhagabDoor
