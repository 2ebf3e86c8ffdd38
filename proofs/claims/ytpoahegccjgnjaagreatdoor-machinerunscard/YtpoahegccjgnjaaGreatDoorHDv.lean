/- Contract, over the turned program: whether a register may have a value. Conditions: those that the theorem states. -/
import Derived.Test.YtpoahegccjgnjaaGreatDoorHJa
import Derived.Test.YtpoahegccjgnjaaGreatDoorIMay
import Derived.Test.YtpoahegccjgnjaaGreatDoorKWrite
namespace Go.Proofs.YtpoahegccjgnjaaGreatDoor
open Go.RowKit
set_option linter.unusedVariables false

set_option maxRecDepth 100000 in
set_option maxHeartbeats 400000 in
theorem m_mayBe (x : V) (w : World) (hx : x.wf) :
    Calls Tryz.prog 18 #[x.val] w fun e w' => e = .returned (.bool (okC x)) ∧ w.grownBy w' none := by
  obtain ⟨k, n, s⟩ := x
  have s0 := hx.s0
  dsimp only at s0
  unfold V.val
  dsimp only
  by_cases hl : (10 : Int) < (s.size : Int)
  · have e1 : okC ⟨k, n, s⟩ = false := by
      unfold okC
      rw [decide_eq_false (by dsimp only; omega), Bool.and_false]
    rw [e1]
    clear e1
    go_enter Tryz.func18, Tryz.ntmps18
    go_wp2
    go_ret
    exact ⟨rfl, World.grownBy_alloc _ _ _⟩
  · have e1 : okC ⟨k, n, s⟩ = okV ⟨k, n, s⟩ := by
      unfold okC
      rw [decide_eq_true (by dsimp only; omega), Bool.and_true]
    rw [e1]
    have hT := tup_one (w.alloc (.cells #[.int .i64 k, .int .i64 n, .string s] 31)) ⟨k, n, s⟩ 31 (w.heap.size + 1) (by simp)
    have Hb : Hid ((encL [⟨k, n, s⟩]).length ≤ 1099511627776) := by
      have h1 := esc_len s.data.toList
      have h2 : s.data.toList.length = s.size := by rw [Array.length_toList]; rfl
      show _ ≤ _
      simp only [encL, List.flatMap_cons, List.flatMap_nil, List.append_nil]
      unfold encV
      dsimp only
      split
      · simp only [List.length_cons, be_len]; omega
      · simp only [encT, List.length_cons, List.length_append, List.length_nil]; omega
    have He := hide (wrE_one ⟨k, n, s⟩)
    clear e1
    go_enter Tryz.func18, Tryz.ntmps18
    go_wp2_with (go_at_call 50; refine (write_any _ [⟨k, n, s⟩] _ hT (by simpa using hx) Hb.out).mono ?_; rintro e w1 ⟨rfl, hg1⟩)
    go_ret
    rw [He.out]
    exact ⟨rfl, grown_trans (grown_trans (World.grownBy_alloc _ _ _) (World.grownBy_alloc _ _ _) (.inl rfl)) hg1 (.inl rfl)⟩


end Go.Proofs.YtpoahegccjgnjaaGreatDoor
