/- The walk of CheckReached, over a program and the table of operands as they lie in memory. -/
import Derived.Test.YtnldjloiafilmabDoorQL
import Derived.Test.YtnldjloiafilmabDoorQK
namespace Go.Proofs.YtnldjloiafilmabDoor.checkReached
open Go.RowKit
set_option linter.unusedVariables false

set_option maxRecDepth 100000 in
set_option maxHeartbeats 2000000 in
theorem walk (v : Value) (l : List In) (W : World) (hT : Ins W v l) (hwf : ∀ x ∈ l, x.wf) (hG : Glob W) :
    Calls Tryd.prog 4 #[v] W fun e W' => e = .returned (.bool true) ∧ W.grownBy W' none := by
  obtain ⟨R, HR⟩ : ∃ R, Hid (reI l = R) := ⟨_, rfl⟩
  go_enter Tryd.func4, Tryd.ntmps4
  go_wp2_with fail
  refine (qlives_any _ hG).mono ?_
  rintro e w1 ⟨rfl, hg1⟩
  have hG1 := hG.keptN hg1
  have hT1 := hT.keptN hg1
  go_wp2_with fail
  refine (qreached_any _ l _ hT1 hwf hG1).mono ?_
  rintro e w2 ⟨v2, rfl, hS2, hg2⟩
  have hT2 := hT1.keptN hg2
  go_wp2_with fail
  refine (qrreached_any _ l _ hT2 hwf).mono ?_
  rintro e w3 ⟨v3, rfl, hS3, hg3⟩
  have hS2' := hS2.keptN (Kp.ofN hg3 none')
  have hgg := grown_up (grown_up hg1 hg2) hg3
  rw [HR.out] at hS2' hS3
  clear hT hT1 hT2 hG hG1 hg1 hg2 hg3 hS2 HR
  obtain ⟨a2, c2, rfl, y1, y2, H2⟩ := hS2'
  obtain ⟨a3, c3, rfl, y3, y4, H3⟩ := hS3
  have hm : (R.length : Int) ≤ 9223372036854775807 := by unfold maxLen at y2; omega
  have HA := hide H2
  have HB := hide H3
  clear y1 y2 y3 y4 H2 H3
  go_wp2_with fail
  go_loopw [5] (fun t wr => ∃ k : Nat, k ≤ R.length ∧ t = .int .i64 k ∧ Kp none' w3 wr) (fun t _ => R.length - (intOf t).toNat)
  case atStart => exact ⟨0, Nat.zero_le _, rfl, Kp.refl _ _⟩
  case round =>
    obtain ⟨k, hk, rfl, hK⟩ := hrel
    by_cases hlt : k < R.length
    · obtain ⟨b2, o2, rfl, _, d2⟩ := HA.out k hlt
      obtain ⟨b3, o3, rfl, _, d3⟩ := HB.out k hlt
      have d2' := hK.cell d2 (fun h => h)
      have d3' := hK.cell d3 (fun h => h)
      have hki : (k : Int) < (R.length : Int) := by omega
      clear d2 d3
      generalize R[k] = z at *
      have tz : (z != z) = false := by simp
      go_upto_region 9 with fail
      go_quiet (fail)
      go_wp2
      go_roundw
      case rel => exact ⟨k + 1, by omega, by go_num, hK.then (Kp.drewN _ _ _)⟩
      case measure => simp [intOf]; omega
    · obtain rfl : k = R.length := by omega
      go_wp2
      go_ret
      exact ⟨rfl, grown_up hgg hK.grown⟩

end Go.Proofs.YtnldjloiafilmabDoor.checkReached
