/- Contracts, over the turned program: a device that isn't there, a sector's bytes of a text, a step, and the first look of every statement. Conditions: those that each theorem states. -/
import Derived.Test.YtgfijbbibafdfaaDCrash
namespace Go.Proofs.Ytgfijbbibafdfaa
open Go.RowKit
open Go.ChangeMaps (setBlock)
set_option linter.unusedVariables false

set_option maxHeartbeats 400000 in
theorem write_nil (i : Int) (s : ByteArray) (w : World) : Calls Try.prog 25 #[.pointer none, .int .i64 i, .string s] w fun e w' => e = .returned (.int .i64 1) ∧ w' = w := by
  go_enter Try.func25, Try.ntmps25
  go_wp2_with (go_at_call 48; refine (begin_nil _).mono ?_; rintro e w' ⟨rfl, rfl⟩)
  go_ret
  exact ⟨rfl, rfl⟩
set_option maxHeartbeats 400000 in
theorem sync_nil (w : World) : Calls Try.prog 27 #[.pointer none] w fun e w' => e = .returned (.int .i64 1) ∧ w' = w := by
  go_enter Try.func27, Try.ntmps27
  go_wp2_with (go_at_call 48; refine (begin_nil _).mono ?_; rintro e w' ⟨rfl, rfl⟩)
  go_ret
  exact ⟨rfl, rfl⟩

/-- Bytes of a text laid over noughts, as far as j. -/
def wholeTo (l : List UInt8) (j : Nat) : List UInt8 := (l.take j ++ noughts.drop (l.take j).length).take 64
/-- The device of the first look, step by step. -/
def lvA : ByteArray := ⟨#[97]⟩
def lvB : ByteArray := ⟨#[98]⟩
def lv1 : Dv := (fresh 2).write 0 lvA
def lv2 : Dv := lv1.sync
def lv3 : Dv := lv2.write 0 lvB
def lv4 : Dv := lv3.crash [] (-1) 0
theorem lv_e1 : wrE (fresh 2) 0 lvA = 0 := by decide
theorem lv_e2 : syE lv1 = 0 := by decide
theorem lv_e3 : wrE lv2 0 lvB = 0 := by decide
theorem lv_r3 : rdL lv3 0 = whole lvB.data.toList := by kernel_rfl
theorem lv_r4 : rdL lv4 0 = whole lvA.data.toList := by kernel_rfl
theorem lv_n4 : lv4.n = 2 := by kernel_rfl
theorem lv_c4 : lv4.c = 3 := by kernel_rfl
theorem lv_c : (fresh 2).c = 0 ∧ lv1.c = 1 ∧ lv2.c = 2 ∧ lv3.c = 3 := by decide

end Go.Proofs.Ytgfijbbibafdfaa
