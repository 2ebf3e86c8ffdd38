/- The walk of TextCode, over instructions and the variables as they lie in memory. -/
import Derived.Test.YtihfnnabafnmlaaDoorJTo
namespace Go.Proofs.YtihfnnabafnmlaaDoor.textCode
open Go.RowKit
set_option linter.unusedVariables false

set_option maxRecDepth 100000 in
set_option maxHeartbeats 2000000 in
theorem walk (v : Value) (l : List In) (W : World) (hT : Ins W v l) (hwf : ∀ x ∈ l, x.wf) (hG : G14 W) :
    Calls Tryd.prog 5 #[v] W fun e W' => e = .returned (.bool true) ∧ W.grownBy W' none := by
  obtain ⟨A, HA⟩ : ∃ A : ByteArray, Hid ((⟨(wiB l).toArray⟩ : ByteArray) = A) := ⟨_, rfl⟩
  obtain ⟨B, HB⟩ : ∃ A : ByteArray, Hid ((⟨(wtB l).toArray⟩ : ByteArray) = A) := ⟨_, rfl⟩
  obtain ⟨E, HE⟩ : ∃ E, Hid (wiE l = E) := ⟨_, rfl⟩
  have t2 : (E == E) = true := by simp
  go_enter Tryd.func5, Tryd.ntmps5
  go_wp2_with (first
    | (go_at_call 6; refine (tlives_any _ hG).mono ?_; rintro e w1 ⟨rfl, hg1⟩; have hT1 := hT.keptN hg1; have hG1 := hG.keptN hg1)
    | (go_at_call 12; refine (iwrite_any _ l _ hT1 hwf hG1.op).mono ?_; rintro e w2 ⟨rfl, hg2⟩; rw [HA.out, HE.out]; have hT2 := hT1.keptN hg2; have hG2 := hG1.keptN hg2)
    | (go_at_call 7; refine (twrite_any _ l _ hT2 hwf hG2).mono ?_; rintro e w3 ⟨rfl, hg3⟩; rw [HB.out, HE.out]))
  go_ret
  exact ⟨rfl, grown_up (grown_up hg1 hg2) hg3⟩

end Go.Proofs.YtihfnnabafnmlaaDoor.textCode
