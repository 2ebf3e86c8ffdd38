/- Contract, over the turned program: layer 13's lives answers true. Condition: the table of operands lies as the program's text lays it. -/
import Derived.Test.YtohcpgoiclapjaaDoorIWr
import Derived.Test.YtohcpgoiclapjaaDoorIRp
import Derived.Test.YtohcpgoiclapjaaDoorISame
namespace Go.Proofs.YtohcpgoiclapjaaDoor
open Go.RowKit
set_option linter.unusedVariables false

def two13 : List In := [⟨1, 1, 0, 0, ⟨1, 5, ⟨#[]⟩⟩⟩, ⟨17, 0, 0, 0, ⟨0, 0, ⟨#[]⟩⟩⟩]
theorem two13_a : okI ⟨1, 1, 0, 0, ⟨1, 5, ⟨#[]⟩⟩⟩ = true := by
  have h : okC ⟨1, 5, ⟨#[]⟩⟩ = true := by unfold okC; rw [(okV_iff _).2 (.inl ⟨rfl, rfl⟩)]; rfl
  unfold okI
  dsimp only
  rw [if_pos rfl, h]
  decide
theorem two13_c : okI ⟨17, 0, 0, 0, ⟨0, 0, ⟨#[]⟩⟩⟩ = true := by
  have h : zeroB ⟨0, 0, ⟨#[]⟩⟩ = true := (zeroB_iff _).2 rfl
  unfold okI
  dsimp only
  rw [if_neg (by decide), h]
  decide
theorem two13_ok : two13.all okI = true := by
  unfold two13
  rw [List.all_cons, List.all_cons, two13_a, two13_c]
  rfl
theorem two13_wf : ∀ x ∈ two13, x.wf := by
  intro x hx
  simp only [two13, List.mem_cons, List.not_mem_nil, or_false] at hx
  rcases hx with rfl | rfl <;> exact ⟨⟨by decide, by decide, by decide⟩, ⟨by decide, by decide⟩, ⟨by decide, by decide⟩, ⟨by decide, by decide⟩, ⟨by decide, by decide⟩⟩
theorem two13_enc : encP two13 = [1, 1, 1, 0, 0, 0, 0, 0, 0, 0, 5, 17] := by decide
theorem two13_b : (⟨(wiB two13).toArray⟩ : ByteArray) = ⟨#[1, 1, 1, 0, 0, 0, 0, 0, 0, 0, 5, 17]⟩ := by
  have e : wiB two13 = encP two13 := by unfold wiB wiOk; rw [two13_ok]; rfl
  rw [e, two13_enc]
theorem two13_e : wiE two13 = 0 := by unfold wiE; rw [two13_ok]; rfl
theorem two13_r : pR 64 (⟨#[1, 1, 1, 0, 0, 0, 0, 0, 0, 0, 5, 17]⟩ : ByteArray).data.toList = .ok two13 := by
  have h := pR_enc two13 64 two13_wf two13_ok (by decide)
  rw [two13_enc] at h
  exact h

set_option maxRecDepth 100000 in
set_option maxHeartbeats 1000000 in
theorem ilives_any (w : World) (hG : Glob w) :
    Calls Tryd.prog 8 #[] w fun e w' => e = .returned (.bool true) ∧ w.grownBy w' none := by
  have hga := World.grownBy_alloc w (.cells #[.int .i64 1, .int .i64 1, .int .i64 0, .int .i64 0, .int .i64 1, .int .i64 5, .string ⟨#[]⟩, .int .i64 17, .int .i64 0, .int .i64 0, .int .i64 0, .int .i64 0, .int .i64 0, .string ⟨#[]⟩] 42) none
  have hT : Ins (w.alloc (.cells #[.int .i64 1, .int .i64 1, .int .i64 0, .int .i64 0, .int .i64 1, .int .i64 5, .string ⟨#[]⟩, .int .i64 17, .int .i64 0, .int .i64 0, .int .i64 0, .int .i64 0, .int .i64 0, .string ⟨#[]⟩] 42)) (.slice (some ⟨w.heap.size, 0, none⟩) 2 2) two13 := by
    refine ⟨some ⟨w.heap.size, 0, none⟩, 2, rfl, Nat.le_refl _, by decide, fun i hi => ⟨w.heap.size, 0, rfl, by simp, ?_⟩⟩
    match i, hi with
    | 0, _ =>
      intro j u hu
      rcases (by have := (List.getElem?_eq_some_iff.1 hu).1; simp [In.cells] at this; omega : j = 0 ∨ j = 1 ∨ j = 2 ∨ j = 3 ∨ j = 4 ∨ j = 5 ∨ j = 6) with rfl | rfl | rfl | rfl | rfl | rfl | rfl <;> (simp [two13, In.cells] at hu; subst hu; simp)
    | 1, _ =>
      intro j u hu
      rcases (by have := (List.getElem?_eq_some_iff.1 hu).1; simp [In.cells] at this; omega : j = 0 ∨ j = 1 ∨ j = 2 ∨ j = 3 ∨ j = 4 ∨ j = 5 ∨ j = 6) with rfl | rfl | rfl | rfl | rfl | rfl | rfl <;> (simp [two13, In.cells] at hu; subst hu; simp)
    | (i + 2), hi => exact absurd hi (by simp [two13])
  have hG0 := hG.keptN hga
  go_enter Tryd.func8, Tryd.ntmps8
  go_wp2_with fail
  refine (iwrite_any _ two13 _ hT two13_wf hG0).mono ?_
  rintro e w1 ⟨rfl, hg1⟩
  have hG1 := hG0.keptN hg1
  rw [two13_b, two13_e]
  go_wp2_with fail
  refine (iread_any _ _ (by decide) hG1).mono ?_
  rintro e w2 ⟨v, er, rfl, hP, hg2⟩
  rw [two13_r] at hP
  obtain ⟨rfl, ho⟩ := hP
  have hi := ho.ins
  obtain ⟨a, c, hv, hc, hm, hL⟩ := hi
  have hv' : v = .slice a 2 c := hv
  subst hv'
  have hi2 := ho.ins
  obtain ⟨b, off, rfl, hb, hcs⟩ := hL 0 (by decide)
  have c5 := hcs 5 _ rfl
  rw [show off + 0 * 7 + 5 = off + 5 by omega] at c5
  have hg3 := grown_up (grown_up hga hg1) hg2
  have hS : sameI two13 two13 = true := sameI_self _
  clear hL hcs hv ho
  have Hm := hide hm
  clear hm
  go_wp2_with (go_at_call 16; refine (isame_any _ _ two13 two13 _ hi2 hi2).mono ?_; rintro e w3 ⟨rfl, hg4⟩; rw [hS])
  go_ret
  exact ⟨rfl, grown_up hg3 hg4⟩

end Go.Proofs.YtohcpgoiclapjaaDoor
