/- The walk of CodeReads, over any bytes and the table of operands as it lies in memory. -/
import Derived.Test.YtohcpgoiclapjaaDoorILv
import Derived.Test.YtohcpgoiclapjaaDoorIRq
namespace Go.Proofs.YtohcpgoiclapjaaDoor.codeReads
open Go.RowKit
set_option linter.unusedVariables false

set_option maxRecDepth 100000 in
set_option maxHeartbeats 2000000 in
theorem walk (s : ByteArray) (W : World) (hs : s.size ≤ maxLen) (hG : Glob W) :
    Calls Tryd.prog 4 #[.string s] W fun e W' => e = .returned (.bool true) ∧ W.grownBy W' none := by
  go_enter Tryd.func4, Tryd.ntmps4
  go_wp2_with fail
  refine (ilives_any _ hG).mono ?_
  rintro e w1 ⟨rfl, hg1⟩
  have hG1 := hG.keptN hg1
  go_wp2_with fail
  refine (iread_any s _ hs hG1).mono ?_
  rintro e w2 ⟨v, er, rfl, hP, hg2⟩
  go_wp2_with fail
  refine (rread13_any s _ hs).mono ?_
  rintro e w3 ⟨v', er', rfl, hP', hg3⟩
  obtain ⟨hi, rfl⟩ := told_ins hP
  obtain ⟨hi', rfl⟩ := told_ins hP'
  have hi3 := hi.keptN hg3
  obtain ⟨E, HE⟩ : ∃ E, Hid (riE (pR 64 s.data.toList) = E) := ⟨_, rfl⟩
  rw [HE.out]
  have t2 : (E == E) = true := by simp
  have hS := sameI_self (riL (pR 64 s.data.toList))
  clear hP hP' hi
  go_wp2_with (go_at_call 13; refine (rsame13_any _ _ _ _ _ hi3 hi').mono ?_; rintro e w4 ⟨rfl, hg4⟩; rw [hS])
  go_ret
  exact ⟨rfl, grown_up (grown_up (grown_up hg1 hg2) hg3) hg4⟩

end Go.Proofs.YtohcpgoiclapjaaDoor.codeReads
