/- Contract, over the turned program: what the laws of layer 2 ask first holds, and turns nothing that was there. No conditions. -/
import Derived.Test.YtahpfedcaicohabKWrite
import Derived.Test.YtahpfedcaicohabKRead
namespace Go.Proofs.Ytahpfedcaicohab
open Go.RowKit
set_option linter.unusedVariables false

def two : List V := [⟨1, -1, ⟨#[]⟩⟩, ⟨2, 0, ⟨#[97]⟩⟩]
theorem two_B : wrB two = [1, 127, 255, 255, 255, 255, 255, 255, 255, 2, 97, 0, 1] := by decide +kernel
theorem two_E : wrE two = 0 := by decide +kernel
theorem one_R : pRead [2, 97, 0, 1] = .ok [⟨2, 0, ⟨#[97]⟩⟩] := pRead_enc [⟨2, 0, ⟨#[97]⟩⟩] (by intro x hx; simp at hx; subst hx; exact ⟨by decide, by decide, by decide⟩) (by decide +kernel)
theorem two_wf : ∀ x ∈ two, x.wf := by
  intro x hx
  simp [two] at hx
  rcases hx with rfl | rfl
  · exact ⟨by decide, by decide, by decide⟩
  · exact ⟨by decide, by decide, by decide⟩

theorem two_any (w : World) (v : Value) (h : Tup w v two) :
    Calls Try.prog 7 #[v] w fun e w' => e = .returned (.tuple #[.string ⟨#[1, 127, 255, 255, 255, 255, 255, 255, 255, 2, 97, 0, 1]⟩, .int .i64 0]) ∧ w.grownBy w' none := by
  refine (write_any v two w h two_wf (by decide +kernel)).mono ?_
  rintro e w' ⟨rfl, hg⟩
  rw [two_B, two_E]
  exact ⟨rfl, hg⟩
theorem one_any (w : World) :
    Calls Try.prog 8 #[.string ⟨#[2, 97, 0, 1]⟩] w fun e w' => (∃ g c, e = .returned (.tuple #[.slice (some ⟨g, 0, none⟩) 1 c, .int .i64 0]) ∧ w'.cell? ⟨g, 2, none⟩ = some (.string ⟨#[97]⟩)) ∧ w.grownBy w' none := by
  refine (read_any ⟨#[2, 97, 0, 1]⟩ w (by decide)).mono ?_
  rintro e w' ⟨v, er, rfl, hT, hg⟩
  rw [show (⟨#[2, 97, 0, 1]⟩ : ByteArray).data.toList = [2, 97, 0, 1] from rfl, one_R] at hT
  obtain ⟨rfl, ho⟩ := hT
  refine ⟨?_, hg⟩
  rcases ho.2 with ⟨_, h0⟩ | ⟨g, cap, cur, rfl, _⟩
  · simp at h0
  · obtain ⟨a, c, h1, _, _, h2⟩ := ho.tup
    cases h1
    obtain ⟨b, off, h3, _, _, _, c2⟩ := h2 0 (by simp)
    cases h3
    exact ⟨g, cap, rfl, c2⟩

set_option maxRecDepth 100000 in
set_option maxHeartbeats 400000 in
theorem klives_any (w : World) :
    Calls Try.prog 4 #[] w fun e w' => e = .returned (.bool true) ∧ w.grownBy w' none := by
  have hga := World.grownBy_alloc w (.cells #[.int .i64 1, .int .i64 (-1), .string ⟨#[]⟩, .int .i64 2, .int .i64 0, .string ⟨#[97]⟩] 31) none
  have hT : Tup (w.alloc (.cells #[.int .i64 1, .int .i64 (-1), .string ⟨#[]⟩, .int .i64 2, .int .i64 0, .string ⟨#[97]⟩] 31)) (.slice (some ⟨w.heap.size, 0, none⟩) 2 2) two := by
    refine ⟨some ⟨w.heap.size, 0, none⟩, 2, rfl, Nat.le_refl _, by decide, fun i hi => ⟨w.heap.size, 0, rfl, by simp, ?_⟩⟩
    match i, hi with
    | 0, _ => simp [two]
    | 1, _ => simp [two]
    | (i + 2), hi => exact absurd hi (by simp [two])
  go_enter Try.func4, Try.ntmps4
  go_wp2_with (first
    | (go_at_call 7; refine (two_any _ _ hT).mono ?_; rintro e w1 ⟨rfl, hg1⟩)
    | (go_at_call 8; refine (one_any _).mono ?_; rintro e w2 ⟨⟨g, c, rfl, hc⟩, hg2⟩))
  go_ret
  exact ⟨rfl, grown_up (grown_up hga hg1) hg2⟩

end Go.Proofs.Ytahpfedcaicohab
