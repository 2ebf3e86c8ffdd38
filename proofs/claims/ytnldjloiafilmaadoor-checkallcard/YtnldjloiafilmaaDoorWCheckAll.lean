/- The walk of CheckAll, over a program and the table of operands as they lie in memory. -/
import Derived.Test.YtnldjloiafilmaaDoorQL
import Derived.Test.YtnldjloiafilmaaDoorQH
namespace Go.Proofs.YtnldjloiafilmaaDoor.checkAll
open Go.RowKit
set_option linter.unusedVariables false

set_option maxRecDepth 100000 in
set_option maxHeartbeats 2000000 in
theorem walk (v : Value) (l : List In) (W : World) (hT : Ins W v l) (hwf : ∀ x ∈ l, x.wf) (hG : Glob W) :
    Calls Tryd.prog 6 #[v] W fun e W' => e = .returned (.bool true) ∧ W.grownBy W' none := by
  obtain ⟨E, HE⟩ : ∃ E, Hid ((chkI l).1 = E) := ⟨_, rfl⟩
  obtain ⟨N, HN⟩ : ∃ N, Hid ((chkI l).2 = N) := ⟨_, rfl⟩
  have t1 : (E == E) = true := by simp
  have t2 : (N == N) = true := by simp
  go_enter Tryd.func6, Tryd.ntmps6
  go_wp2_with fail
  refine (qlives_any _ hG).mono ?_
  rintro e w1 ⟨rfl, hg1⟩
  have hG1 := hG.keptN hg1
  have hT1 := hT.keptN hg1
  go_wp2_with fail
  refine (qcheck_any _ l _ hT1 hwf hG1).mono ?_
  rintro e w2 ⟨rfl, hg2⟩
  rw [HE.out, HN.out]
  have hT2 := hT1.keptN hg2
  go_wp2_with fail
  refine (qrcheck_any _ l _ hT2 hwf).mono ?_
  rintro e w3 ⟨rfl, hg3⟩
  rw [HE.out, HN.out]
  go_wp2
  go_ret
  exact ⟨rfl, grown_up (grown_up hg1 hg2) hg3⟩

end Go.Proofs.YtnldjloiafilmaaDoor.checkAll
