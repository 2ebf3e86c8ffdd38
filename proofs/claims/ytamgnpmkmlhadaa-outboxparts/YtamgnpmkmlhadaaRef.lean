/- Contracts, over the turned program: the reference's size, Num, Str and Fits answer as pack's do. Conditions: those that each theorem states. -/
import Derived.Test.YtamgnpmkmlhadaaJB
import Derived.WalkLawsBesides
import Derived.Deep.CutRange
import Derived.Deep.RegionWith
import Derived.Deep.RegionHeldLaw
namespace Go.Proofs.Ytamgnpmkmlhadaa
open Go.RowKit
set_option linter.unusedVariables false

set_option maxHeartbeats 400000 in
theorem rfsize_any (k : Int) (w : World) :
    Calls Try.prog 46 #[.int .i64 k] w fun e w' => e = .returned (.int .i64 (wid k : Int)) ∧ w' = w := by
  by_cases h1 : k < 1
  · have hw : ((wid k : Nat) : Int) = 1 := by unfold wid; simp [h1]
    rw [hw]
    clear hw
    go_enter Try.func46, Try.ntmps46
    go_wp2
    go_ret
    exact ⟨rfl, rfl⟩
  · by_cases h8 : 8 < k
    · have hw : ((wid k : Nat) : Int) = 8 := by unfold wid; simp [h1, h8]
      rw [hw]
      clear hw
      go_enter Try.func46, Try.ntmps46
      go_wp2
      go_ret
      exact ⟨rfl, rfl⟩
    · have hw : ((wid k : Nat) : Int) = k := by unfold wid; simp [h1, h8]; omega
      rw [hw]
      clear hw
      go_enter Try.func46, Try.ntmps46
      go_wp2
      go_ret
      exact ⟨rfl, rfl⟩

theorem rfits_eq (n : Nat) (k : Int) (h : wid k ≤ 7) : decide ((n : Int) < IntKind.u64.wrap (2 ^ (8 * wid k))) = fitsB n k := by
  have h1 : 2 ^ (8 * wid k) ≤ 2 ^ 56 := Nat.pow_le_pow_right (by omega) (by omega)
  have e : ((2 : Int) ^ (8 * wid k)) = ((2 ^ (8 * wid k) : Nat) : Int) := by simp
  have h2 : (2 : Nat) ^ 56 < 18446744073709551616 := by decide
  rw [e]
  unfold fitsB
  generalize (2 : Nat) ^ (8 * wid k) = p at *
  rw [IntKind.wrap_u64]
  rw [Bool.eq_iff_iff, decide_eq_true_iff, decide_eq_true_iff]
  omega

theorem made_own (w : World) (g K : Nat) (h : w.ownsRow 0 5 1 (.slice (some ⟨g, 0, none⟩) K K) K (madeCells (Value.int .u8 0).cells (K * 1)).toList) : Own 5 w 0 (.slice (some ⟨g, 0, none⟩) K K) (List.replicate K 0) := by
  have e : (madeCells (Value.int .u8 0).cells (K * 1)).toList = bcs (List.replicate K 0) := by
    show (madeCells #[Value.int .u8 0] (K * 1)).toList = _
    rw [toList_madeCells_one]
    simp [bcs]
  unfold Own
  rw [← e, List.length_replicate]
  exact h

set_option maxRecDepth 100000 in
set_option maxHeartbeats 400000 in
theorem rfnum_any (n : Nat) (k : Int) (w : World) (hn : (n : Int) < 18446744073709551616) :
    Calls Try.prog 32 #[.int .u64 n, .int .i64 k] w fun y w' => y = .returned (.string ⟨(be n (wid k)).toArray⟩) ∧ w.grownBy w' none := by
  have hlo := wid_lo k
  have hhi := wid_hi k
  obtain ⟨i0, hi, hz0, hz1, hz2⟩ := info_parts Try.info5
  have Hn : Hid ((n : Int) < 18446744073709551616) := hn
  clear hn
  go_enter Try.func32, Try.ntmps32
  go_wp2_with (first | (go_at_call 46; refine (rfsize_any _ _).mono ?_; rintro e w' ⟨rfl, rfl⟩) | (at_make; refine wpList_make_full _ rfl (.tmp 9) (.tmp 9) 58 rfl 0 5 i0 (.int .u8 0) 1 Try.underlying58 hi hz0 hz1 .i64 .i64 _ _ (wid k) rfl rfl rfl rfl (by rw [hz2]; omega) (by unfold maxLen; omega) (Nat.zero_le _) ?_; intro w2 ho2 hg2))
  have ho3 : Own 5 w2 0 (.slice (some ⟨w'.heap.size, 0, none⟩) (wid k) (wid k)) (List.replicate (wid k) 0) := made_own _ _ _ ho2
  clear ho2
  generalize hg : w'.heap.size = g at *
  go_loopw [0, 6] (fun a i wr => ∃ j : Nat, j ≤ wid k ∧ i = .int .i64 ((j : Int) - 1) ∧ ∃ q : Nat, a = .int .u64 q ∧ Hid (q = n / 2 ^ (8 * (wid k - j))) ∧ Own 5 wr 0 (.slice (some ⟨g, 0, none⟩) (wid k) (wid k)) (List.replicate j 0 ++ be n (wid k - j)) ∧ w'.grownBy wr none) (fun _ i _ => (intOf i + 1).toNat)
  case atStart => exact ⟨wid k, Nat.le_refl _, rfl, n, rfl, by show _ = _; simp, by simpa [be] using ho3, hg2⟩
  case round =>
    clear ho3 hg2
    obtain ⟨j, hj, rfl, q, rfl, Hq, ho, hgr⟩ := hrel
    rcases Nat.eq_zero_or_pos j with h0 | h0
    · subst h0
      have hcv := run_convert_own wr 58 9 5 Try.underlying58 Try.underlying5 Try.underlying9 ho
      simp only [List.replicate_zero, List.nil_append, Nat.sub_zero] at hcv
      clear ho Hq
      go_wp2
      go_ret
      exact ⟨rfl, hgr⟩
    · obtain ⟨m, rfl⟩ : ∃ m, j = m + 1 := ⟨j - 1, by omega⟩
      have em : ((m + 1 : Nat) : Int) - 1 = (m : Int) := by omega
      rw [em]
      have hm : (m : Int) < (wid k : Int) := by omega
      have hml : m < (List.replicate (m + 1) (0 : UInt8) ++ be n (wid k - (m + 1))).length := by simp; omega
      have hc := (ho.cellAt m hml).1
      have hf := (ho.cellAt m hml).2
      have Ho : Hid (Own 5 (wr.setCell ⟨g, m, none⟩ (.int .u8 ((UInt8.ofNat q).toNat : Int))) 0 (.slice (some ⟨g, 0, none⟩) (wid k) (wid k)) (List.replicate m 0 ++ be n (wid k - m))) := by
        have h2 := (ho.stored m (UInt8.ofNat q)).1
        have e1 : (List.replicate (m + 1) (0 : UInt8) ++ be n (wid k - (m + 1))).set m (UInt8.ofNat q) = List.replicate m 0 ++ be n (wid k - m) := by
          rw [show wid k - m = (wid k - (m + 1)) + 1 by omega]
          simp only [be]
          rw [Hq.out, List.replicate_succ', List.append_assoc, List.set_append_right _ _ (by simp)]
          simp
        rw [e1] at h2
        exact h2
      have Hg : Hid (w'.grownBy (wr.setCell ⟨g, m, none⟩ (.int .u8 ((UInt8.ofNat q).toNat : Int))) none) :=
        grown_trans hgr (ho.stored m (UInt8.ofNat q)).2 (.inr ⟨g, rfl, by omega⟩)
      clear em h0 ho hgr
      have Hw : Hid (IntKind.u64.wrap ((q : Int) / 256) = ((q / 256 : Nat) : Int)) := by
        have h1 := Hn.out
        have h2 : q ≤ n := by rw [Hq.out]; exact Nat.div_le_self _ _
        show _ = _
        rw [IntKind.wrap_u64]
        omega
      have Hq2 : Hid (q / 256 = n / 2 ^ (8 * (wid k - m))) := by
        show _ = _
        rw [Hq.out, Nat.div_div_eq_div_mul, show 8 * (wid k - m) = 8 * (wid k - (m + 1)) + 8 by omega, Nat.pow_add]
      have Hv : Hid ((q : Int) % 256 = ((UInt8.ofNat q).toNat : Int)) := by show _ = _; rw [UInt8.toNat_ofNat']; omega
      go_wp2
      go_roundw
      case rel =>
        rw [Hv.out]
        exact ⟨m, by omega, rfl, q / 256, by rw [Hw.out], Hq2, Ho.out, Hg.out⟩
      case measure => simp [intOf]

theorem rfnum1 (n : Nat) (w : World) (hn : n < 256) :
    Calls Try.prog 32 #[.int .u64 n, .int .i64 1] w fun y w' => y = .returned (.string ⟨#[UInt8.ofNat n]⟩) ∧ w.grownBy w' none := by
  refine (rfnum_any n 1 w (by omega)).mono ?_
  rintro e w' ⟨rfl, hg⟩
  refine ⟨?_, hg⟩
  have e : be n (wid 1) = [UInt8.ofNat n] := by
    rw [show wid 1 = 1 by decide]
    simp [be]
  rw [e]

theorem grown_of_drew {w w' : World} {row : Option Nat} (h : w.drew.grownBy w' row) : w.grownBy w' row := ⟨h.os, h.tape, h.output, h.size, h.block⟩
theorem len_data (s : ByteArray) : s.data.toList.length = s.size := by rw [Array.length_toList]; rfl
theorem cat_small (s : ByteArray) (h : (s.size : Int) ≤ 255) : (⟨#[UInt8.ofNat s.size]⟩ : ByteArray) ++ s = ⟨(strB s.data.toList).toArray⟩ := by
  apply ByteArray.ext
  apply Array.ext'
  rw [ByteArray.data_append]
  simp only [strB]
  rw [len_data, show min s.size 255 = s.size by omega, List.take_of_length_le (by rw [len_data]; omega)]
  simp
theorem cat_great (s : ByteArray) (h : 255 < (s.size : Int)) : (⟨#[255]⟩ : ByteArray) ++ s.extract 0 255 = ⟨(strB s.data.toList).toArray⟩ := by
  apply ByteArray.ext
  apply Array.ext'
  rw [ByteArray.data_append]
  simp only [strB, Array.toList_append]
  rw [len_data, show min s.size 255 = 255 by omega, ext_list]
  simp

set_option maxRecDepth 100000 in
set_option maxHeartbeats 400000 in
theorem rfstr_any (s : ByteArray) (w : World) (hs : s.size ≤ maxLen) :
    Calls Try.prog 45 #[.string s] w fun y w' => y = .returned (.string ⟨(strB s.data.toList).toArray⟩) ∧ w.grownBy w' none := by
  unfold maxLen at hs
  by_cases hc : (s.size : Int) ≤ 255
  · have hw : IntKind.u64.wrap (s.size : Int) = (s.size : Int) := by rw [IntKind.wrap_u64]; omega
    go_enter Try.func45, Try.ntmps45
    go_upto_region 2 with fail
    go_region_with (go_at_call 32; refine (rfnum1 s.size _ (by omega)).mono ?_; rintro e w' ⟨rfl, hg⟩)
    all_goals go_wp2
    all_goals go_ret
    all_goals exact ⟨congrArg (fun x => Ending.returned (Value.string x)) (cat_small s hc), grown_of_drew hg⟩
  · have hc' : 255 < (s.size : Int) := by omega
    go_enter Try.func45, Try.ntmps45
    go_upto_region 2 with fail
    go_region_with (go_at_call 32; refine (rfnum1 255 _ (by omega)).mono ?_; rintro e w' ⟨rfl, hg⟩)
    all_goals go_wp2
    all_goals go_ret
    all_goals exact ⟨congrArg (fun x => Ending.returned (Value.string x)) (cat_great s hc'), grown_of_drew hg⟩

end Go.Proofs.Ytamgnpmkmlhadaa
