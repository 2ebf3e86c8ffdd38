/- Contracts, over the turned program: the reference's Right, Write, Read and Same of tuples answer as the plain words say. Conditions: those that each theorem states. -/
import Derived.Test.YtamgnpmkmlhadaaKParse
import Derived.Test.YtamgnpmkmlhadaaKWrite
import Derived.Test.YtamgnpmkmlhadaaKRead
import Derived.Test.YtamgnpmkmlhadaaRefRead
namespace Go.Proofs.Ytamgnpmkmlhadaa
open Go.RowKit
set_option linter.unusedVariables false

set_option maxRecDepth 100000 in
set_option maxHeartbeats 400000 in
theorem right_any (x : V) (w : World) :
    Calls Try.prog 56 #[x.val] w fun e w' => e = .returned (.bool (okV x)) ∧ w.grownBy w' none := by
  obtain ⟨k, n, s⟩ := x
  unfold V.val okV
  dsimp only
  by_cases h1 : k = 1
  · subst h1
    by_cases hs : s.toList.isEmpty = true
    all_goals
      go_enter Try.func56, Try.ntmps56
      go_wp2
      go_ret
      exact ⟨by simp [hs], World.grownBy_alloc _ _ _⟩
  · by_cases h2 : k = 2
    · subst h2
      go_enter Try.func56, Try.ntmps56
      go_wp2
      go_ret
      exact ⟨by simp, World.grownBy_alloc _ _ _⟩
    · have e1 : (k == 1) = false := by simp [h1]
      have e2 : (k == 2) = false := by simp [h2]
      go_enter Try.func56, Try.ntmps56
      go_wp2
      go_ret
      exact ⟨by simp [h1, h2], World.grownBy_alloc _ _ _⟩

theorem mkB_append (a b : List UInt8) : mkB a ++ mkB b = mkB (a ++ b) := by
  apply ByteArray.ext
  apply Array.ext'
  rw [ByteArray.data_append]
  simp [mkB]
theorem ext_one (s : ByteArray) (j : Nat) (h : j < s.size) : s.extract j (j + 1) = mkB [s[j]] := by
  apply ByteArray.ext
  apply Array.ext'
  rw [ext_list, mkB_list]
  have h2 : j < s.data.toList.length := by simpa using h
  rw [show j + 1 - j = 1 by omega, List.drop_eq_getElem_cons h2]
  simp
  rfl

end Go.Proofs.Ytamgnpmkmlhadaa
