/- The walk of CheckOne, over an instruction and the table of operands as they lie in memory. -/
import Derived.Test.YtnldjloiafilmabDoorQL
import Derived.Test.YtnldjloiafilmabDoorQD
namespace Go.Proofs.YtnldjloiafilmabDoor.checkOne
open Go.RowKit
set_option linter.unusedVariables false

/-- The seven cells of the instruction. -/
def S7 (g : Nat) (x : In) (W : World) : Prop := W.cell? ⟨g, 0, none⟩ = some (.int .i64 x.op) ∧ W.cell? ⟨g, 1, none⟩ = some (.int .i64 x.a) ∧ W.cell? ⟨g, 2, none⟩ = some (.int .i64 x.b) ∧ W.cell? ⟨g, 3, none⟩ = some (.int .i64 x.c) ∧
    W.cell? ⟨g, 4, none⟩ = some (.int .i64 x.v.k) ∧ W.cell? ⟨g, 5, none⟩ = some (.int .i64 x.v.n) ∧ W.cell? ⟨g, 6, none⟩ = some (.string x.v.s)
theorem dr (w : World) : w.grownBy w.drew none := ⟨rfl, rfl, rfl, Nat.le_refl _, fun _ _ _ => rfl⟩

set_option maxRecDepth 100000 in
set_option maxHeartbeats 2000000 in
theorem walk (x : In) (W : World) (hG : Glob W) :
    Calls Tryd.prog 3 #[x.val] W fun e W' => e = .returned (.bool true) ∧ W.grownBy W' none := by
  have hb := Ib.new W x
  have hg0 := World.grownBy_alloc W (.cells #[.int .i64 x.op, .int .i64 x.a, .int .i64 x.b, .int .i64 x.c, .int .i64 x.v.k, .int .i64 x.v.n, .string x.v.s] 26) none
  have hG0 := hG.keptN hg0
  obtain ⟨T, HT⟩ : ∃ T, Hid (tgI x = T) := ⟨_, rfl⟩
  obtain ⟨H, HH⟩ : ∃ H, Hid (hasT x = H) := ⟨_, rfl⟩
  have H1 := hide (qtarget_any x)
  have H2 := hide (qrtarget_any x)
  have H3 := hide (qregs_any x)
  have H4 := hide (qrregs_any x)
  rw [HT.out, HH.out] at H1 H2
  obtain ⟨R, HR⟩ : ∃ R, Hid (regsI x = R) := ⟨_, rfl⟩
  rw [HR.out] at H3 H4
  have HRl : Hid (R.length ≤ 3) := by
    show _ ≤ _
    rw [← HR.out]
    unfold regsI opL
    split <;> simp <;> omega
  have t1 : (T == T) = true := by simp
  have t2 : (H == H) = true := by simp
  unfold In.val at H1 H2 H3 H4 ⊢
  go_enter Tryd.func3, Tryd.ntmps3
  go_wp2_with fail
  refine (qlives_any _ hG0).mono ?_
  rintro e w1 ⟨rfl, hg1⟩
  have hb1 := hb.kept hg1 (by simp)
  have hG1 := hG0.keptN hg1
  obtain ⟨c0, c1, c2, c3, c4, c5, c6⟩ := hb1.cs
  go_wp2_with fail
  refine (H1.out _).mono ?_
  rintro e w2 ⟨rfl, hg2⟩
  have hb2 := hb1.kept hg2 (by simp)
  have hG2 := hG1.keptN hg2
  clear c0 c1 c2 c3 c4 c5 c6
  obtain ⟨c0, c1, c2, c3, c4, c5, c6⟩ := hb2.cs
  go_wp2_with fail
  refine (H2.out _).mono ?_
  rintro e w3 ⟨rfl, hg3⟩
  have hb3 := hb2.kept hg3 (by simp)
  have hG3 := hG2.keptN hg3
  have hgg := grown_up (grown_up (grown_up hg0 hg1) hg2) hg3
  clear c0 c1 c2 c3 c4 c5 c6
  go_upto_region 5 with fail
  have hG4 := hG3.keptN (dr w3)
  have hb4 := hb3.kept (dr w3) (by simp)
  have hg4 := grown_up hgg (dr w3)
  have t0 := hb4.cs
  have HKB : Hid (∀ w5, w3.drew.grownBy w5 none → S7 W.heap.size x w5) := fun w5 h => (hb4.kept h (by simp)).cs
  go_region_held_law (fun Y => Y.cell? ⟨W.heap.size, 0, none⟩ = some (.int .i64 x.op) ∧ Y.cell? ⟨W.heap.size, 1, none⟩ = some (.int .i64 x.a) ∧ Y.cell? ⟨W.heap.size, 2, none⟩ = some (.int .i64 x.b) ∧ Y.cell? ⟨W.heap.size, 3, none⟩ = some (.int .i64 x.c) ∧
    Y.cell? ⟨W.heap.size, 4, none⟩ = some (.int .i64 x.v.k) ∧ Y.cell? ⟨W.heap.size, 5, none⟩ = some (.int .i64 x.v.n) ∧ Y.cell? ⟨W.heap.size, 6, none⟩ = some (.string x.v.s)) (first | assumption) (first
    | (go_at_call 11; refine (H3.out w3.drew hG4).mono ?_; rintro e w5 ⟨v5, rfl, hS5, hg5⟩; have T5 := HKB.out w5 hg5; unfold S7 at T5)
    | (go_at_call 12; refine (H4.out w5).mono ?_; rintro e w6 ⟨v6, rfl, hS6, hg6⟩; have T6 := HKB.out w6 (grown_up hg5 hg6); unfold S7 at T6; have hS5' := hS5.keptN (Kp.ofN hg6 none'))
    | (go_at_call 10; refine (sameInts_sl _ _ R _ _ _ hS5' hS6 (Nat.le_trans HRl.out (by omega))).mono ?_; rintro e w7 ⟨rfl, hk7⟩; have T7 := HKB.out w7 (grown_up (grown_up hg5 hg6) hk7.grown); unfold S7 at T7)
    | fail)
  go_wp2
  go_ret
  exact ⟨rfl, grown_up (grown_up (grown_up hg4 hg5) hg6) hk7.grown⟩

end Go.Proofs.YtnldjloiafilmabDoor.checkOne
