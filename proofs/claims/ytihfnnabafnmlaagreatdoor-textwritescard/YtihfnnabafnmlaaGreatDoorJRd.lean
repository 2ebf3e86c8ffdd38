/- Contracts, over the turned program: numbers as decimal words, and the document's word of a value. Conditions: those that each theorem states. -/
import Derived.Test.YtihfnnabafnmlaaGreatDoorJRc
import Derived.Test.YtihfnnabafnmlaaGreatDoorJTa
import Derived.Test.YtihfnnabafnmlaaGreatDoorJShelf
import Derived.BigQuiet
namespace Go.Proofs.YtihfnnabafnmlaaGreatDoor
open Go.RowKit
set_option linter.unusedVariables false

set_option maxRecDepth 100000 in
set_option maxHeartbeats 800000 in
theorem rvalue14_any (x : V) (w : World) (hx : x.wf) (hs : x.s.size ≤ 1099511627776) (hT : Tab10 w) :
    Calls Tryz.prog 36 #[x.val] w fun e w' => e = .returned (.string (mkB (valW x))) ∧ w.grownBy w' none := by
  obtain ⟨xk, xn, s⟩ := x
  have hb := Vb.new w ⟨xk, xn, s⟩
  have hg0 := World.grownBy_alloc w (.cells #[.int .i64 xk, .int .i64 xn, .string s] 35) none
  have hT1 := hT.keptN hg0
  obtain ⟨n0, n1⟩ : -9223372036854775808 ≤ xn ∧ xn < 9223372036854775808 := ⟨hx.n0, hx.n1⟩
  obtain ⟨R, HR⟩ : ∃ R, Hid (valW ⟨xk, xn, s⟩ = R) := ⟨_, rfl⟩
  rw [HR.out]
  obtain ⟨c0, c1, c2⟩ : _ ∧ _ ∧ _ := ⟨hb.c0, hb.c1, hb.c2⟩
  dsimp only at c0 c1 c2 hg0 hT1 n0 n1 hs
  by_cases hk : xk = 1
  · have Hv : Hid (R = Lib.itoa xn) := by show _ = _; rw [← HR.out]; unfold valW; rw [if_pos hk]
    have hk' : (xk == 1) = true := by simp [hk]
    clear hk
    unfold V.val
    go_enter Tryz.func36, Tryz.ntmps36
    go_wp2_with (go_at_call 55; refine (rfmt_any xn _ n0 n1 hT1).mono ?_; rintro e w1 ⟨rfl, hg1⟩)
    go_ret
    rw [Hv.out]
    exact ⟨rfl, grown_up hg0 hg1⟩
  · have Hv : Hid (R = 39 :: hexL s.data.toList) := by show _ = _; rw [← HR.out]; unfold valW; rw [if_neg hk]
    have hk' : (xk == 1) = false := by simp [hk]
    clear hk
    have hLs : s.data.toList.length = s.size := Array.length_toList
    unfold V.val
    go_enter Tryz.func36, Tryz.ntmps36
    go_wp2_with fail
    generalize w.alloc (.cells #[.int .i64 xk, .int .i64 xn, .string s] 35) = W at *
    generalize w.heap.size = g at *
    go_loopw [3, 4] (fun u i wr => ∃ (k : Nat) (A : ByteArray), k ≤ s.size ∧ i = .int .i64 k ∧ u = .string A ∧ Hid (A = mkB (39 :: hexL (s.data.toList.take k))) ∧ A.size ≤ 2 * k + 1 ∧ W.grownBy wr none) (fun _ i _ => s.size - (intOf i).toNat)
    case atStart => exact ⟨0, _, Nat.zero_le _, rfl, rfl, rfl, by decide, World.grownBy.refl _ _⟩
    case round =>
      obtain ⟨k, A, hkn, rfl, rfl, HA, hAs, hg⟩ := hrel
      have d2 := (cell_same (hg.block g (lt_of_cell c2) (by simp)) 2).trans c2
      by_cases hlt : k < s.size
      · have hki : (k : Int) < (s.size : Int) := by omega
        have hcl := s[k].toNat_lt
        have e0 : IntKind.i64.wrap (s[k].toNat : Int) = (s[k].toNat : Int) := by rw [IntKind.wrap_i64]; omega
        have e1 : IntKind.i64.wrap ((IntKind.i64.wrap (s[k].toNat : Int)).tdiv 16) = ((s[k].toNat / 16 : Nat) : Int) := by rw [e0, Int.tdiv_eq_ediv_of_nonneg (by omega), IntKind.wrap_i64]; omega
        have e2 : (IntKind.i64.wrap (s[k].toNat : Int)).tmod 16 = ((s[k].toNat % 16 : Nat) : Int) := by rw [e0, Int.tmod_eq_emod_of_nonneg (by omega)]; omega
        have Hd1 : Hid (∀ w : World, Calls Tryz.prog 59 #[.int .i64 ((s[k].toNat / 16 : Nat) : Int)] w fun e w' => e = .returned (.string (mkB [hexD (s[k].toNat / 16)])) ∧ w' = w) := fun w => rdigit_any _ w (by omega)
        have Hd2 : Hid (∀ w : World, Calls Tryz.prog 59 #[.int .i64 ((s[k].toNat % 16 : Nat) : Int)] w fun e w' => e = .returned (.string (mkB [hexD (s[k].toNat % 16)])) ∧ w' = w) := fun w => rdigit_any _ w (by omega)
        rw [← e1] at Hd1
        rw [← e2] at Hd2
        have HS : Hid (hexL (s.data.toList.take (k + 1)) = hexL (s.data.toList.take k) ++ [hexD (s[k].toNat / 16), hexD (s[k].toNat % 16)]) := by
          show _ = _
          rw [List.take_succ_eq_append_getElem (by omega), hexL_snoc, sget s k hlt]
          rfl
        obtain ⟨X, HX⟩ : ∃ X : ByteArray, mkB [hexD (s[k].toNat / 16)] = X := ⟨_, rfl⟩
        have HX := hide HX
        obtain ⟨Y, HY⟩ : ∃ X : ByteArray, mkB [hexD (s[k].toNat % 16)] = X := ⟨_, rfl⟩
        have HY := hide HY
        have hX1 : X.size = 1 := by rw [← HX.out]; rfl
        have hY1 : Y.size = 1 := by rw [← HY.out]; rfl
        rw [HX.out] at Hd1
        rw [HY.out] at Hd2
        have t1 : ¬ 9223372036854775807 < X.size + Y.size := by omega
        have t2 : ¬ 9223372036854775807 < A.size + (X ++ Y).size := by rw [ByteArray.size_append]; omega
        have t3 : ¬ 9223372036854775807 < A.size + (X.size + Y.size) := by omega
        have HA2 : Hid (A ++ (X ++ Y) = mkB (39 :: hexL (s.data.toList.take (k + 1)))) := by
          show _ = _
          rw [HS.out, HA.out, ← HX.out, ← HY.out, mkB_append, mkB_append]
          rfl
        have hAs2 : (A ++ (X ++ Y)).size ≤ 2 * (k + 1) + 1 := by rw [ByteArray.size_append, ByteArray.size_append]; omega
        have HAs2 := hide hAs2
        clear e0 e1 e2 hAs2 hX1 hY1 hcl
        go_upto_region 7 with fail
        go_quiet (first
          | (go_at_call 59; exact Calls.quiet_of_same (Hd1.out _))
          | (go_at_call 59; exact Calls.quiet_of_same (Hd2.out _)))
        go_wp2
        go_roundw
        case rel => exact ⟨k + 1, _, by omega, by go_num, rfl, HA2.out, HAs2.out, grown_then_drewN hg _⟩
        case measure => simp [intOf]; omega
      · have HA2 : Hid (A = mkB R) := by
          show _ = _
          rw [HA.out, Hv.out, List.take_of_length_le (by omega)]
        go_wp2
        go_ret
        exact ⟨by rw [HA2.out]; rfl, grown_up hg0 hg⟩

end Go.Proofs.YtihfnnabafnmlaaGreatDoor
