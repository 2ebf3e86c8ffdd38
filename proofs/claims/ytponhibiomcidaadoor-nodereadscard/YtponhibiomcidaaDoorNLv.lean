/- Contracts, over the turned program: the statements' first question, whether there is a program. Conditions: those that each theorem states. -/
import Derived.Test.YtponhibiomcidaaDoorNPd
import Derived.Test.YtponhibiomcidaaDoorNPj
namespace Go.Proofs.YtponhibiomcidaaDoor
open Go Go.RowKit
set_option linter.unusedVariables false

def ndA : Nd := ⟨true, [⟨⟨#[97]⟩, ⟨#[49]⟩⟩], [], []⟩
theorem ndA_put : (⟨true, [], [], []⟩ : Nd).put ⟨#[97]⟩ ⟨#[49]⟩ = ndA := by rfl
theorem ndA_E : ndA.writeE = 0 := by decide
theorem ndA_size : ndA.size = 6 := by decide
theorem ndA_w : ndA.write = mkB ndA.page := by unfold Nd.write; rw [if_pos ndA_E]
theorem ndA_wsize : ndA.write.size = 256 := by rw [ndA_w, mkB_size, page_len ndA_E]
theorem ndA_six : ndA.write.extract 0 6 = ⟨#[1, 1, 1, 97, 1, 49]⟩ := by
  rw [ndA_w, mkB_ext]
  rfl

set_option maxRecDepth 100000 in
set_option maxHeartbeats 1000000 in
theorem lives9_any (w : World) : Calls Tryd.prog 4 #[] w fun e w' => e = .returned (.bool true) ∧ Kp none' w w' := by
  have HP : Hid (∀ W : World, Calls Tryd.prog 8 #[.agg #[.bool true, .slice none 0 0, .slice none 0 0, .slice none 0 0], .string ⟨#[97]⟩, .string ⟨#[49]⟩] W fun e w' => ∃ a1 c1 a2 c2 a3 c3, e = .returned (.agg #[.bool true, .slice a1 1 c1, .slice a2 0 c2, .slice a3 0 c3]) ∧ Nv w'.heap.size w' (.agg #[.bool true, .slice a1 1 c1, .slice a2 0 c2, .slice a3 0 c3]) ndA ∧ Kp none' W w') := by
    intro W
    have h0 : Nv 0 W (.agg #[.bool true, .slice none 0 0, .slice none 0 0, .slice none 0 0]) ⟨true, [], [], []⟩ := ⟨⟨_, _, _, rfl, Prs.nil _ _, Sl.nil _ _ _, Sl.nil _ _ _⟩, ⟨by simp, by simp, by simp⟩⟩
    refine (put_any _ _ 0 ⟨#[97]⟩ ⟨#[49]⟩ W h0 (by show 1 ≤ _; unfold maxLen; omega) (by show 1 ≤ _; unfold maxLen; omega) (by simp)).mono ?_
    rintro e w' ⟨y, rfl, hN, hK⟩
    rw [ndA_put] at hN
    have hN' := hN
    obtain ⟨⟨pv, kv, dv, rfl, hP, hS, hD⟩, _⟩ := hN'
    obtain ⟨a1, c1, rfl, _⟩ := hP
    obtain ⟨a2, c2, rfl, _⟩ := hS
    obtain ⟨a3, c3, rfl, _⟩ := hD
    exact ⟨a1, c1, a2, c2, a3, c3, rfl, hN, hK⟩
  obtain ⟨T, HT⟩ : ∃ T, Hid (ndA.write = T) := ⟨ndA.write, hide rfl⟩
  have hT1 : T.size = 256 := by rw [← HT.out]; exact ndA_wsize
  have hT2 : T.extract 0 6 = ⟨#[1, 1, 1, 97, 1, 49]⟩ := by rw [← HT.out]; exact ndA_six
  have HW : Hid (∀ (W : World) (B : Nat) (x : Value), Nv B W x ndA → B ≤ W.heap.size → Calls Tryd.prog 9 #[x] W fun e w' => e = .returned (.tuple #[.string T, .int .i64 0]) ∧ Kp none' W w') := by
    intro W B x h hB
    have := nwrite_any x ndA B W h hB (by decide) (by decide)
    rw [HT.out, ndA_E] at this
    exact this
  have HS : Hid (∀ (W : World) (B : Nat) (x : Value), Nv B W x ndA → Calls Tryd.prog 10 #[x] W fun e w' => e = .returned (.int .i64 6) ∧ Kp none' W w') := by
    intro W B x h
    have := nsize_any x ndA B W h
    rw [ndA_size, show wrap64 ((6 : Nat) : Int) = 6 by unfold wrap64; omega] at this
    exact this
  go_enter Tryd.func4, Tryd.ntmps4
  go_upto_region 2 with (first
    | (go_at_call 8; refine (HP.out _).mono ?_; rintro e w1 ⟨a1, c1, a2, c2, a3, c3, rfl, hN1, hK1⟩)
    | fail)
  have hb := Nb.new w1 true (.slice a1 1 c1) (.slice a2 0 c2) (.slice a3 0 c3)
  have hKa : Kp none' w1 (w1.alloc (.cells #[.bool true, .slice a1 1 c1, .slice a2 0 c2, .slice a3 0 c3] 27)) := Kp.alloc _ _ _
  have hN2 := hN1.keptN hKa
  have d0 := hb.c0
  have d1 := hb.c1
  have d2 := hb.c2
  have d3 := hb.c3
  have hs2 : w1.heap.size ≤ (w1.alloc (.cells #[.bool true, .slice a1 1 c1, .slice a2 0 c2, .slice a3 0 c3] 27)).heap.size := hKa.size
  go_upto_region 3 with (first
    | (go_at_call 9; refine (HW.out _ _ _ hN2 hs2).mono ?_; rintro e w2 ⟨rfl, hK2⟩)
    | fail)
  have hb2 := hb.kept hK2 (fun h => h)
  have e0 := hb2.c0
  have e1 := hb2.c1
  have e2 := hb2.c2
  have e3 := hb2.c3
  have hN3 := hN2.keptN hK2
  clear d0 d1 d2 d3 hs2
  go_wp2_with (first
    | (go_at_call 10; refine (HS.out _ _ _ hN3).mono ?_; rintro e w3 ⟨rfl, hK3⟩)
    | fail)
  go_ret
  exact ⟨rfl, hK1.thenN (hKa.thenN (hK2.thenN hK3))⟩

end Go.Proofs.YtponhibiomcidaaDoor
