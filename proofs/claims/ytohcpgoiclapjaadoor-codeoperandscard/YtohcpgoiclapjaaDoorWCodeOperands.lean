/- The walk of CodeOperands, over a number, two programs and the table of operands as they lie in memory. -/
import Derived.Test.YtohcpgoiclapjaaDoorILv
import Derived.Test.YtohcpgoiclapjaaDoorIRef
namespace Go.Proofs.YtohcpgoiclapjaaDoor.codeOperands
open Go.RowKit
set_option linter.unusedVariables false

set_option maxRecDepth 100000 in
set_option maxHeartbeats 2000000 in
theorem walk (op : Int) (v v' : Value) (l m : List In) (W : World) (hT : Ins W v l) (hT' : Ins W v' m) (hG : Glob W) :
    Calls Tryd.prog 6 #[.int .i64 op, v, v'] W fun e W' => e = .returned (.bool true) ∧ W.grownBy W' none := by
  obtain ⟨N, HN⟩ : ∃ N, Hid (nOpI op = N) := ⟨_, rfl⟩
  obtain ⟨O, HO⟩ : ∃ O, Hid (opOk op = O) := ⟨_, rfl⟩
  obtain ⟨B, HB⟩ : ∃ B, Hid (sameI l m = B) := ⟨_, rfl⟩
  have hS := sameI_self l
  have t1 : (N == N) = true := by simp
  have t2 : (O == O) = true := by simp
  have t3 : (B == B) = true := by simp
  go_enter Tryd.func6, Tryd.ntmps6
  go_wp2_with fail
  refine (ilives_any _ hG).mono ?_
  rintro e w1 ⟨rfl, hg1⟩
  have hT1 := hT.keptN hg1
  have hT1' := hT'.keptN hg1
  have hG1 := hG.keptN hg1
  go_wp2_with fail
  refine (operands_any op _ hG1).mono ?_
  rintro e w2 ⟨rfl, hw⟩
  obtain rfl := hw.symm
  rw [HN.out, HO.out]
  go_wp2_with fail
  refine (roperands_any op _).mono ?_
  rintro e w2 ⟨rfl, hw2⟩
  obtain rfl := hw2.symm
  rw [HN.out, HO.out]
  have HS1 := hide (fun w (h1 : Ins w v l) (h2 : Ins w v' m) => isame_any v v' l m w h1 h2)
  have HS2 := hide (fun w (h1 : Ins w v l) => isame_any v v l l w h1 h1)
  go_wp2_with (first
    | (go_at_call 16; refine (HS2.out _ hT4).mono ?_; rintro e w5 ⟨rfl, hg5⟩; rw [hS])
    | (go_at_call 16; refine (HS1.out _ hT1 hT1').mono ?_; rintro e w3 ⟨rfl, hg3⟩; rw [HB.out]; have hT3 := hT1.keptN hg3; have hT3' := hT1'.keptN hg3)
    | (go_at_call 13; refine (rsame13_any _ _ l m _ hT3 hT3').mono ?_; rintro e w4 ⟨rfl, hg4⟩; rw [HB.out]; have hT4 := hT3.keptN hg4))
  go_ret
  exact ⟨rfl, grown_up (grown_up (grown_up hg1 hg3) hg4) hg5⟩

end Go.Proofs.YtohcpgoiclapjaaDoor.codeOperands
