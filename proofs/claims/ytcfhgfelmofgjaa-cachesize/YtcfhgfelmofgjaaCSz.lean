/- What a read leaves of a state: no page twice, no more than may be. Conditions: those that each theorem states. -/
import Derived.Test.YtcfhgfelmofgjaaCFill
namespace Go.Proofs.Ytcfhgfelmofgjaa
open Go.RowKit
set_option linter.unusedVariables false

theorem St.use_nodup' {s : St} (sz n : Nat) (z : Int) (h : s.K.Nodup) : (s.use sz n z).K.Nodup := by
  unfold St.use
  split
  · split <;> exact Go.Proofs.Ytcfhgfelmofgjaa.use_nodup h z
  · exact h
theorem St.use_len' {s : St} (sz n : Nat) (z : Int) (h : s.K.length ≤ sz) : (s.use sz n z).K.length ≤ sz := by
  unfold St.use
  split
  · split <;> exact Go.Proofs.Ytcfhgfelmofgjaa.use_len h z
  · exact h

end Go.Proofs.Ytcfhgfelmofgjaa
