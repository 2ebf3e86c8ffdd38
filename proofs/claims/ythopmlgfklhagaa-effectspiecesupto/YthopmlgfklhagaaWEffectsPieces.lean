/- The walk of the law EffectsPieces. Conditions: those that the theorem states. -/
import Derived.Test.YthopmlgfklhagaaELv
import Derived.Test.YthopmlgfklhagaaERp
import Derived.Deep.QuietTactic
namespace Go.Proofs.Ythopmlgfklhagaa.effectsPieces
open Go.RowKit
set_option linter.unusedVariables false

theorem grown_drewN9 (w : World) (m : Nat) : w.grownBy (w.drewN m) none := ⟨rfl, rfl, rfl, Nat.le_refl _, fun _ _ _ => rfl⟩
theorem cell_g9 {w w' : World} {b o : Nat} {v : Value} (hc : w.cell? ⟨b, o, none⟩ = some v) (hg : w.grownBy w' none) : w'.cell? ⟨b, o, none⟩ = some v := (cell_same (hg.block b (lt_of_cell hc) (by simp)) o).trans hc
set_option maxRecDepth 100000 in
set_option maxHeartbeats 4000000 in
theorem walk (s : ByteArray) (n : Int) (w : World) (hs : s.size ≤ 1048576) :
    Calls Try.prog 7 #[.string s, .int .i64 n] w fun e w' => e = .returned (.bool true) ∧ w.grownBy w' none := by
  have hp := fun W => epieces_any s n W hs
  have hr := fun W => rpieces_any s n W hs
  have hw := fun v base W H => ewhole_any v s n base W H hs
  have hss : (s.toList == s.toList) = true := by simp
  have hlen := pcs_len s n
  have hne := hide (pcs_ne s n)
  go_enter Try.func7, Try.ntmps7
  go_wp2_with (go_at_call 8; refine (lives17_any _).mono ?_; rintro e w1 ⟨rfl, hg1⟩)
  refine (hp _).mono ?_
  rintro e w2 ⟨a, rfl, hA, hg2⟩
  go_wp2_with fail
  refine (hr _).mono ?_
  rintro e w3 ⟨b, rfl, hB, hg3⟩
  have hA3 := hA.kept (Kp.ofN hg3 none') (fun _ _ h => h)
  have G3 := grown_up (grown_up hg1 hg2) hg3
  have hw1 := fun W H => hw a w1.heap.size W H
  obtain ⟨aa, ca, rfl, HA⟩ := hA3.open
  obtain ⟨ab, cb, rfl, HB⟩ := hB.open
  have hA4 : ∀ W : World, w3.grownBy W none → Ow Value.string 9 W w1.heap.size (.slice aa (pcs s n).length ca) (pcs s n) := fun W h => hA3.kept (Kp.ofN h none') (fun _ _ h => h)
  have HF : Hid (∀ W : World, w3.grownBy W none → ∀ j, j < (pcs s n).length → ∃ g g2 X, aa = some ⟨g, 0, none⟩ ∧ ab = some ⟨g2, 0, none⟩ ∧ W.cell? ⟨g, j, none⟩ = some (.string X) ∧ W.cell? ⟨g2, j, none⟩ = some (.string X) ∧ (X.toList == []) = false) := by
    intro W hW j hj
    obtain ⟨g, e1, _, h1⟩ := HA j hj
    obtain ⟨g2, e2, _, h2⟩ := HB j hj
    exact ⟨g, g2, (pcs s n)[j], e1, e2, cell_g9 h1 hW, cell_g9 h2 hW, hne.out j hj⟩
  have hL : (pcs s n).length ≤ 1048576 := by omega
  have hcall := hw1 w3 hA3
  clear HA HB hA3 hA4 hB hA hw1 hw hp hr hne hlen hg1 hg2 hg3
  generalize (pcs s n).length = L at *
  go_upto_region 6 with (go_at_call 23; refine hcall.mono ?_; rintro e w4 ⟨rfl, hg4⟩)
  have HF4 := hide (HF.out w4 hg4)
  have G4 := grown_up G3 hg4
  clear HF hcall G3
  have hL2 : (L : Int) ≤ 1048576 := by omega
  go_wp2_with fail
  go_loopw [7] (fun t wr => ∃ j : Nat, t = .int .i64 j ∧ j ≤ L ∧ ∃ m, wr = w4.drewN m) (fun t _ => L - (intOf t).toNat)
  case atStart => exact ⟨0, rfl, Nat.zero_le _, 0, rfl⟩
  case round =>
    obtain ⟨j, rfl, hj, m, rfl⟩ := hrel
    by_cases hlt : j < L
    · obtain ⟨g, g2, X, rfl, rfl, h1, h2, h3⟩ := HF4.out j hlt
      have hxx : (X.toList == X.toList) = true := by simp
      have hji : (j : Int) < (L : Int) := by omega
      have j0 : (0 : Int) ≤ (j : Int) := by omega
      have h1' : (w4.drewN m).cell? ⟨g, j, none⟩ = some (.string X) := h1
      have h2' : (w4.drewN m).cell? ⟨g2, j, none⟩ = some (.string X) := h2
      go_upto_region 9 with fail
      go_quiet (fail)
      go_wp2
      go_roundw
      case rel => exact ⟨j + 1, by go_num, by omega, _, rfl⟩
      case measure => simp [intOf]; omega
    · have hji : ¬ (j : Int) < (L : Int) := by omega
      go_wp2
      go_ret
      exact ⟨rfl, grown_up G4 (grown_drewN9 w4 m)⟩

end Go.Proofs.Ythopmlgfklhagaa.effectsPieces
