/- The walk of TextWrites, over instructions, any number and the variables as they lie in memory. -/
import Derived.Test.YtihfnnabafnmlaaGreatDoorJTo
import Derived.Test.YtihfnnabafnmlaaGreatDoorJRf
namespace Go.Proofs.YtihfnnabafnmlaaGreatDoor.textWrites
open Go.RowKit
set_option linter.unusedVariables false

set_option maxRecDepth 100000 in
set_option maxHeartbeats 2000000 in
theorem walk (v : Value) (l : List In) (op : Int) (W : World) (hT : Ins W v l) (hwf : ∀ x ∈ l, x.wf) (h0 : -9223372036854775808 ≤ op) (h1 : op < 9223372036854775808) (hG : G14 W) :
    Calls Tryz.prog 3 #[v, .int .i64 op] W fun e W' => e = .returned (.bool true) ∧ W.grownBy W' none := by
  obtain ⟨B, HB⟩ : ∃ A : ByteArray, Hid ((⟨(wtB l).toArray⟩ : ByteArray) = A) := ⟨_, rfl⟩
  obtain ⟨E, HE⟩ : ∃ E, Hid (wiE l = E) := ⟨_, rfl⟩
  have Hn1 := hide (fun W (hg : G14 W) => tname_any op W h0 h1 hg)
  have Hn2 := hide (fun W => rname_any op W h0 h1)
  obtain ⟨X, HX⟩ : ∃ X, Hid (mkB (nameB op) = X) := ⟨_, rfl⟩
  rw [HX.out] at Hn1 Hn2
  have t1 : (B.toList == B.toList) = true := by simp
  have t2 : (E == E) = true := by simp
  have t3 : (X.toList == X.toList) = true := by simp
  clear h0 h1
  go_enter Tryz.func3, Tryz.ntmps3
  go_wp2_with (first
    | (go_at_call 5; refine (tlives_any _ hG).mono ?_; rintro e w1 ⟨rfl, hg1⟩; have hT1 := hT.keptN hg1; have hG1 := hG.keptN hg1)
    | (go_at_call 6; refine (twrite_any _ l _ hT1 hwf hG1).mono ?_; rintro e w2 ⟨rfl, hg2⟩; rw [HB.out, HE.out]; have hT2 := hT1.keptN hg2; have hG2 := hG1.keptN hg2)
    | (go_at_call 7; refine (rwrite14_any _ l _ hT2 hwf hG2.t10).mono ?_; rintro e w3 ⟨rfl, hg3⟩; rw [HB.out, HE.out]; have hG3 := hG2.keptN hg3)
    | (go_at_call 8; refine (Hn1.out _ hG3).mono ?_; rintro e w4 ⟨rfl, rfl⟩)
    | (go_at_call 9; refine (Hn2.out _).mono ?_; rintro e w5 ⟨rfl, hg5⟩))
  go_ret
  exact ⟨rfl, grown_up (grown_up (grown_up hg1 hg2) hg3) hg5⟩

end Go.Proofs.YtihfnnabafnmlaaGreatDoor.textWrites
