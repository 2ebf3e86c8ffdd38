/- The walk of TextReads, over any text and the variables as they lie in memory. -/
import Derived.Test.YthopmlgfklhagaaGreatDoorJTo
import Derived.Test.YthopmlgfklhagaaGreatDoorJRj
import Derived.Test.YthopmlgfklhagaaGreatDoorJRi
import Derived.Test.YthopmlgfklhagaaGreatDoorISame
namespace Go.Proofs.YthopmlgfklhagaaGreatDoor.textReads
open Go.RowKit
set_option linter.unusedVariables false

set_option maxRecDepth 100000 in
set_option maxHeartbeats 2000000 in
theorem walk0 (hI : RInst) (S : List UInt8) (W : World) (hs : S.length ≤ 1048576) (hG : G14 W) :
    Calls Tryz.prog 3 #[.string (mkB S)] W fun e W' => e = .returned (.bool true) ∧ W.grownBy W' none := by
  have Hrd : Hid (∀ W0, G14 W0 → Calls Tryz.prog 5 #[.string (mkB S)] W0 fun e w' => ∃ v, e = .returned (.tuple #[v, .int .i64 (rtN (rdT 64 0 (splitC 10 S))), .int .i64 (rtE (rdT 64 0 (splitC 10 S)))]) ∧ Ins w' v (rtL (rdT 64 0 (splitC 10 S))) ∧ W0.grownBy w' none) := by
    intro W0 hg
    refine (tread_any S W0 (by omega) hg).mono ?_
    rintro e w' ⟨v, rfl, hO, hg⟩
    exact ⟨v, rfl, hO.ins, hg⟩
  have Hrf : Hid (∀ W0, Calls Tryz.prog 6 #[.string (mkB S)] W0 fun e w' => ∃ v, e = .returned (.tuple #[v, .int .i64 (rtN (rdT 64 0 (splitC 10 S))), .int .i64 (rtE (rdT 64 0 (splitC 10 S)))]) ∧ Ins w' v (rtL (rdT 64 0 (splitC 10 S))) ∧ W0.grownBy w' none) := by
    intro W0
    refine (rread14_any hI S W0 (by omega)).mono ?_
    rintro e w' ⟨v, rfl, hO, hg⟩
    exact ⟨v, rfl, hO.ins, hg⟩
  generalize rdT 64 0 (splitC 10 S) = R at *
  obtain ⟨n, Hn⟩ : ∃ n, Hid (rtN R = n) := ⟨_, rfl⟩
  obtain ⟨E, HE⟩ : ∃ n, Hid (rtE R = n) := ⟨_, rfl⟩
  rw [Hn.out, HE.out] at Hrd Hrf
  generalize rtL R = l at *
  have hS := sameI_self l
  have t1 : (n == n) = true := by simp
  have t2 : (E == E) = true := by simp
  have HG := hide hG
  clear hG hs hI Hn HE
  go_enter Tryz.func3, Tryz.ntmps3
  go_wp2_with (first
    | (go_at_call 4; refine (tlives_any _ HG.out).mono ?_; rintro e w1 ⟨rfl, hg1⟩)
    | (go_at_call 5; refine (Hrd.out _ (HG.out.keptN hg1)).mono ?_; rintro e w2 ⟨v2, rfl, hI2, hg2⟩)
    | (go_at_call 6; refine (Hrf.out _).mono ?_; rintro e w3 ⟨v3, rfl, hI3, hg3⟩)
    | (go_at_call 7; refine (rsame13_any _ _ _ _ _ (hI2.keptN hg3) hI3).mono ?_; rintro e w4 ⟨rfl, hg4⟩; rw [hS]))
  go_ret
  exact ⟨rfl, grown_up (grown_up (grown_up hg1 hg2) hg3) hg4⟩

theorem rinst14_all : RInst := fun v ws w h1 h2 h3 => rinst14_any v ws w h1 h2 h3

theorem walk (s : ByteArray) (W : World) (hs : s.size ≤ 1048576) (hG : G14 W) :
    Calls Tryz.prog 3 #[.string s] W fun e W' => e = .returned (.bool true) ∧ W.grownBy W' none := by
  have hl : s.data.toList.length ≤ 1048576 := by have : s.data.toList.length = s.size := Array.length_toList; omega
  have e : s = mkB s.data.toList := (mkB_self s).symm
  rw [e]
  exact walk0 rinst14_all s.data.toList W hl hG

end Go.Proofs.YthopmlgfklhagaaGreatDoor.textReads
