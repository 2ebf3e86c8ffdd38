/- Contract, over the turned program: layer 15's lives answers true. Condition: the table of operands lies as the program's text lays it. -/
import Derived.Test.YtnldjloiafilmaaDoorQJ
import Derived.Test.YtnldjloiafilmaaDoorQHead
namespace Go.Proofs.YtnldjloiafilmaaDoor
open Go.RowKit
set_option linter.unusedVariables false

def one15 : In := ⟨1, 0, 0, 0, ⟨1, 1, ⟨#[]⟩⟩⟩
def two15 : List In := [one15, ⟨18, 0, 0, 0, ⟨0, 0, ⟨#[]⟩⟩⟩]
theorem one15_ok : okI one15 = true := by
  have h : okC ⟨1, 1, ⟨#[]⟩⟩ = true := by unfold okC; rw [(okV_iff _).2 (.inl ⟨rfl, rfl⟩)]; rfl
  unfold okI one15
  dsimp only
  rw [if_pos rfl, h]
  decide
theorem two15_wf : ∀ x ∈ two15, x.wf := by
  intro x hx
  simp only [two15, one15, List.mem_cons, List.not_mem_nil, or_false] at hx
  rcases hx with rfl | rfl <;> exact ⟨⟨by decide, by decide, by decide⟩, ⟨by decide, by decide⟩, ⟨by decide, by decide⟩, ⟨by decide, by decide⟩, ⟨by decide, by decide⟩⟩
theorem two15_run : RunOk two15 := by
  refine ⟨by decide, by decide, ?_, by decide, by decide, by decide⟩
  unfold two15
  rw [List.all_cons, List.all_cons, one15_ok]
  show (true && (okI doneI && true)) = true
  rw [done_ok]
  rfl
theorem two15_chk : chkI two15 = (0, 0) := chk_zero _ two15_run
theorem one15_chk : chkI [one15] = (13, 0) := by
  unfold chkI
  have h1 : badI okI [one15] = 1 := by unfold badI; rw [one15_ok]; rfl
  rw [h1]
  rfl
theorem two15_len : (reI two15).length = 2 := by
  unfold reI
  rw [two15_chk]
  simp [rchI, two15]
theorem two15_regs : (regsI ⟨18, 0, 0, 0, ⟨0, 0, ⟨#[]⟩⟩⟩).length = 1 := by decide

set_option maxRecDepth 100000 in
set_option maxHeartbeats 1000000 in
theorem qlives_any (w : World) (hG : Glob w) :
    Calls Tryd.prog 14 #[] w fun e w' => e = .returned (.bool true) ∧ w.grownBy w' none := by
  have hga := World.grownBy_alloc w (.cells #[.int .i64 1, .int .i64 0, .int .i64 0, .int .i64 0, .int .i64 1, .int .i64 1, .string ⟨#[]⟩, .int .i64 18, .int .i64 0, .int .i64 0, .int .i64 0, .int .i64 0, .int .i64 0, .string ⟨#[]⟩] 41) none
  have hT : Ins (w.alloc (.cells #[.int .i64 1, .int .i64 0, .int .i64 0, .int .i64 0, .int .i64 1, .int .i64 1, .string ⟨#[]⟩, .int .i64 18, .int .i64 0, .int .i64 0, .int .i64 0, .int .i64 0, .int .i64 0, .string ⟨#[]⟩] 41)) (.slice (some ⟨w.heap.size, 0, none⟩) two15.length 2) two15 := by
    refine ⟨some ⟨w.heap.size, 0, none⟩, 2, rfl, Nat.le_refl _, by decide, fun i hi => ⟨w.heap.size, 0, rfl, by simp, ?_⟩⟩
    match i, hi with
    | 0, _ =>
      intro j u hu
      rcases (by have := (List.getElem?_eq_some_iff.1 hu).1; simp [In.cells] at this; omega : j = 0 ∨ j = 1 ∨ j = 2 ∨ j = 3 ∨ j = 4 ∨ j = 5 ∨ j = 6) with rfl | rfl | rfl | rfl | rfl | rfl | rfl <;> (simp [two15, one15, In.cells] at hu; subst hu; simp)
    | 1, _ =>
      intro j u hu
      rcases (by have := (List.getElem?_eq_some_iff.1 hu).1; simp [In.cells] at this; omega : j = 0 ∨ j = 1 ∨ j = 2 ∨ j = 3 ∨ j = 4 ∨ j = 5 ∨ j = 6) with rfl | rfl | rfl | rfl | rfl | rfl | rfl <;> (simp [two15, one15, In.cells] at hu; subst hu; simp)
    | (i + 2), hi => exact absurd hi (by simp [two15])
  have hG0 := hG.keptN hga
  have hT1 := hT.take 1 (by decide)
  have Hw1 : Hid (∀ x ∈ two15.take 1, x.wf) := fun x hx => two15_wf x (List.mem_of_mem_take hx)
  have Hc1 : Hid (chkI (two15.take 1) = (13, 0)) := one15_chk
  replace hT : Ins _ (.slice (some ⟨w.heap.size, 0, none⟩) 2 2) two15 := hT
  generalize hW : w.alloc (.cells #[.int .i64 1, .int .i64 0, .int .i64 0, .int .i64 0, .int .i64 1, .int .i64 1, .string ⟨#[]⟩, .int .i64 18, .int .i64 0, .int .i64 0, .int .i64 0, .int .i64 0, .int .i64 0, .string ⟨#[]⟩] 41) = W0 at *
  have HW := hide hW
  clear hW
  go_enter Tryd.func14, Tryd.ntmps14
  go_upto_region 2 with fail
  rw [HW.out]
  go_wp2_with fail
  refine (qcheck_any _ two15 _ hT two15_wf hG0).mono ?_
  rintro e w1 ⟨rfl, hg1⟩
  rw [two15_chk]
  have hG1 := hG0.keptN hg1
  have hT11 := hT1.keptN hg1
  have hT21 := hT.keptN hg1
  go_wp2_with fail
  refine (qcheck_any _ (two15.take 1) _ hT11 Hw1.out hG1).mono ?_
  rintro e w2 ⟨rfl, hg2⟩
  rw [Hc1.out]
  have hG2 := hG1.keptN hg2
  have hT22 := hT21.keptN hg2
  go_wp2_with fail
  refine (qreached_any _ two15 _ hT22 two15_wf hG2).mono ?_
  rintro e w3 ⟨v3, rfl, hS3, hg3⟩
  obtain ⟨a3, c3, hv3, y1, y2, y3⟩ := hS3
  clear y1 y2 y3
  rw [two15_len] at hv3
  subst hv3
  have hG3 := hG2.keptN hg3
  have hT23 := hT22.keptN hg3
  obtain ⟨y1, y2, y3, b, off, e, hb, hcs⟩ := hT23.at 1 (by decide)
  clear y1 y2 y3
  cases e
  have d0 : w3.cell? ⟨w.heap.size, 7, none⟩ = some (.int .i64 18) := hcs 0 _ rfl
  have d1 : w3.cell? ⟨w.heap.size, 8, none⟩ = some (.int .i64 0) := hcs 1 _ rfl
  have d2 : w3.cell? ⟨w.heap.size, 9, none⟩ = some (.int .i64 0) := hcs 2 _ rfl
  have d3 : w3.cell? ⟨w.heap.size, 10, none⟩ = some (.int .i64 0) := hcs 3 _ rfl
  have d4 : w3.cell? ⟨w.heap.size, 11, none⟩ = some (.int .i64 0) := hcs 4 _ rfl
  have d5 : w3.cell? ⟨w.heap.size, 12, none⟩ = some (.int .i64 0) := hcs 5 _ rfl
  have d6 : w3.cell? ⟨w.heap.size, 13, none⟩ = some (.string ⟨#[]⟩) := hcs 6 _ rfl
  clear hT hT1 hT11 hT21 hT22 hT23
  have HRg := hide (qregs_any ⟨18, 0, 0, 0, ⟨0, 0, ⟨#[]⟩⟩⟩ w3 hG3)
  unfold In.val at HRg
  clear hcs
  go_wp2_with fail
  refine HRg.out.mono ?_
  rintro e w4 ⟨v4, rfl, hS4, hg4⟩
  obtain ⟨a4, c4', hv4, y1, y2, y3⟩ := hS4
  clear y1 y2 y3
  rw [two15_regs] at hv4
  subst hv4
  go_wp2
  go_ret
  exact ⟨rfl, grown_up (grown_up (grown_up (grown_up hga hg1) hg2) hg3) hg4⟩

end Go.Proofs.YtnldjloiafilmaaDoor
