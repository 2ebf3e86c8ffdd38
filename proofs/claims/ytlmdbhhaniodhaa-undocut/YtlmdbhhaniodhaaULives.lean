/- Contract, over the turned program: the first look of every statement on undo. Conditions: those that each theorem states. -/
import Derived.Test.YtlmdbhhaniodhaaURead
namespace Go.Proofs.Ytlmdbhhaniodhaa
open Go.RowKit
open Go.ChangeMaps (setBlock)
set_option linter.unusedVariables false

def lvL : List Int := [3, 258]
def lvS : ByteArray := ⟨#[2, 0, 3, 1, 2]⟩
def lvW : ByteArray := ⟨(whole lvS.data.toList).toArray⟩
theorem lv_wE : wE lvL = 0 := by kernel_rfl
theorem lv_wB : (⟨(wB lvL).toArray⟩ : ByteArray) = lvW := by kernel_rfl
theorem lv_rE : rE lvW = 0 := by kernel_rfl
theorem lv_rL : rL lvW = lvL := by kernel_rfl
theorem lv_mk : saysB ⟨(markL true).toArray⟩ = true := by kernel_rfl
theorem lv_size : lvW.size = 64 := by kernel_rfl
theorem sl_two (w : World) (x y : Int) : Sl (Value.int .i64) (w.heap.size + 1) (w.alloc (.cells #[.int .i64 x, .int .i64 y] 3)) (.slice (some ⟨w.heap.size, 0, none⟩) 2 2) [x, y] := by
  refine ⟨_, 2, rfl, by simp, by unfold maxLen; omega, fun i hi => ⟨w.heap.size, 0, rfl, Nat.lt_succ_self _, ?_⟩⟩
  rw [cell_of_row _ _ _ _ _ _ (heap_alloc_last w _)]
  match i, hi with
  | 0, _ => rfl
  | 1, _ => rfl

theorem place00 (w : World) : Calls Try.prog 20 #[.int .i64 0, .int .i64 0] w fun e w' => e = .returned (.int .i64 126) ∧ w' = w := by
  have h := place_any 0 0 w
  rw [show wrap64 (126 + 4 * 0 + 0) = 126 by unfold wrap64; omega] at h
  exact h
set_option maxRecDepth 100000 in
set_option maxHeartbeats 800000 in
theorem ulives_any (w : World) : Calls Try.prog 8 #[] w fun e w' => e = .returned (.bool true) ∧ Kp none' w w' := by
  have hS := sl_two w 3 258
  have hka := Kp.alloc none' w (.cells #[.int .i64 3, .int .i64 258] 3)
  obtain ⟨wa, Ha⟩ : ∃ wa, Hid (w.alloc (.cells #[.int .i64 3, .int .i64 258] 3) = wa) := ⟨_, rfl⟩
  rw [Ha.out] at hS hka
  obtain ⟨X, HX⟩ : ∃ X, Hid (lvW = X) := ⟨_, rfl⟩
  have hrr : i64s lvL := by intro z hz; simp [lvL] at hz; omega
  have hrE : rE X = 0 := by rw [← HX.out]; exact lv_rE
  have hrL : rL X = lvL := by rw [← HX.out]; exact lv_rL
  have hXs : X.size ≤ maxLen := by rw [← HX.out, lv_size]; unfold maxLen; omega
  obtain ⟨M, HM⟩ : ∃ M : ByteArray, Hid (⟨(markL true).toArray⟩ = M) := ⟨_, rfl⟩
  have hMk : saysB M = true := by rw [← HM.out]; exact lv_mk
  obtain ⟨g, HG⟩ : ∃ g, Hid (w.heap.size = g) := ⟨_, rfl⟩
  rw [HG.out] at hS
  have HS := hide hS
  go_enter Try.func8, Try.ntmps8
  clear hS
  go_upto_region 3 with (first
    | (go_at_call 9; rw [Ha.out]; try rw [HG.out]; refine (uwrite_any _ lvL _ _ HS.out hrr).mono ?_; rintro e w1 ⟨rfl, hk1⟩; rw [lv_wE, lv_wB, HX.out])
    | (go_at_call 24; refine (whole_any lvS _ (by show (5 : Nat) ≤ _; unfold maxLen; omega)).mono ?_; rintro e w2 ⟨rfl, hk2⟩; rw [show (⟨(whole lvS.data.toList).toArray⟩ : ByteArray) = lvW from rfl, HX.out])
    | (go_at_call 11; refine (uread_any X _ hXs).mono ?_; rintro e w3 ⟨v3, rfl, hO3, hk3⟩; rw [hrE]; rw [hrL] at hO3)
    | fail)
  have hK3 := ((hka.then hk1).then hk2).then hk3
  have hS3 := hO3.sl
  obtain ⟨a3, c3, rfl, _, _, ha3⟩ := hS3
  obtain ⟨b3, o3, rfl, _, hc3⟩ := ha3 1 (by simp [lvL])
  rw [show lvL.length = 2 from rfl]
  rw [show lvL[1] = 258 from rfl] at hc3
  clear ha3 hO3 hka hk1 hk2 hk3
  go_wp2_with (first
    | (go_at_call 24; refine (whole_any lvS _ (by show (5 : Nat) ≤ _; unfold maxLen; omega)).mono ?_; rintro e w4 ⟨rfl, hk4⟩; rw [show (⟨(whole lvS.data.toList).toArray⟩ : ByteArray) = lvW from rfl, HX.out]; have hc4 := hk4.cell hc3 (fun h => h))
    | (go_at_call 20; refine (place00 _).mono ?_; rintro e w5 ⟨rfl, rfl⟩)
    | (go_at_call 22; refine (mark_any true _).mono ?_; rintro e w6 ⟨rfl, hk6⟩; rw [HM.out])
    | (go_at_call 23; refine (marked_any M _).mono ?_; rintro e w7 ⟨rfl, rfl⟩; rw [hMk])
    | fail)
  go_ret
  exact ⟨rfl, (hK3.then hk4).then hk6⟩

end Go.Proofs.Ytlmdbhhaniodhaa
