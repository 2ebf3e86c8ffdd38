/- Contract, over the turned program: the first look of every statement on undo. Conditions: those that each theorem states. -/
import Derived.Test.YtgfijbbibafdfaaGreatURead
namespace Go.Proofs.YtgfijbbibafdfaaGreat
open Go.RowKit
open Go.ChangeMaps (setBlock)
set_option linter.unusedVariables false

def lvL : List Int := [3, 258]
def lvS : ByteArray := ⟨#[2, 0, 3, 1, 2]⟩
def lvW : ByteArray := ⟨(whole lvS.data.toList).toArray⟩
theorem lv_wE : wE lvL = 0 := by kernel_rfl
theorem lv_wB : (⟨(wB lvL).toArray⟩ : ByteArray) = lvW := by kernel_rfl
theorem lv_rE : rE lvW = 0 := by kernel_rfl
theorem lv_rL : rL lvW = lvL := by kernel_rfl
theorem lv_mk : saysB ⟨(markL true).toArray⟩ = true := by kernel_rfl
theorem lv_size : lvW.size = 64 := by kernel_rfl
theorem sl_two (w : World) (x y : Int) : Sl (Value.int .i64) (w.heap.size + 1) (w.alloc (.cells #[.int .i64 x, .int .i64 y] 3)) (.slice (some ⟨w.heap.size, 0, none⟩) 2 2) [x, y] := by
  refine ⟨_, 2, rfl, by simp, by unfold maxLen; omega, fun i hi => ⟨w.heap.size, 0, rfl, Nat.lt_succ_self _, ?_⟩⟩
  rw [cell_of_row _ _ _ _ _ _ (heap_alloc_last w _)]
  match i, hi with
  | 0, _ => rfl
  | 1, _ => rfl

theorem place00 (w : World) : Calls Tryz.prog 43 #[.int .i64 0, .int .i64 0] w fun e w' => e = .returned (.int .i64 126) ∧ w' = w := by
  have h := place_any 0 0 w
  rw [show wrap64 (126 + 4 * 0 + 0) = 126 by unfold wrap64; omega] at h
  exact h
end Go.Proofs.YtgfijbbibafdfaaGreat
