/- Contracts, over the turned program: what the document's pair, Size, ordered, Right, Child and Find answer of nodes that came in. Conditions: those that each theorem states. -/
import Derived.Test.YtponhibiomcidaaDoorNDefs
namespace Go.Proofs.YtponhibiomcidaaDoor
open Go Go.RowKit
set_option linter.unusedVariables false

theorem bl_lt (a b : List UInt8) (x y : UInt8) (h : x ≠ y) : Op.bytesLess (x :: a) (y :: b) = decide (x.toNat < y.toNat) := by
  simp only [Op.bytesLess, UInt8.lt_iff_toNat_lt]
  have : (x == y) = false := by simp [h]
  simp [this]
theorem bl_eq (a b : List UInt8) (x : UInt8) : Op.bytesLess (x :: a) (x :: b) = Op.bytesLess a b := by
  have h : ¬ x < x := by rw [UInt8.lt_iff_toNat_lt]; omega
  simp [Op.bytesLess, h]
theorem dropN_cons (s : ByteArray) (j : Nat) (h : j < s.size) : s.data.toList.drop j = s[j] :: s.data.toList.drop (j + 1) := by
  rw [List.drop_eq_getElem_cons (by rw [len_data]; exact h)]
  rfl
theorem dropN_end (s : ByteArray) (j : Nat) (h : ¬ j < s.size) : s.data.toList.drop j = [] := List.drop_eq_nil_of_le (by rw [len_data]; omega)

set_option maxRecDepth 100000 in
set_option maxHeartbeats 400000 in
theorem nahead_any (s t : ByteArray) (w : World) (hs : s.size ≤ maxLen) (ht : t.size ≤ maxLen) :
    Calls Tryd.prog 83 #[.string s, .string t] w fun e w' => e = .returned (.bool (lessB s t)) ∧ Kp none' w w' := by
  unfold maxLen at hs ht
  unfold lessB
  go_enter Tryd.func83, Tryd.ntmps83
  go_wp2_with fail
  go_loopw [5] (fun i wr => ∃ j : Nat, j ≤ s.size ∧ i = .int .i64 j ∧ Hid (Op.bytesLess (s.data.toList.drop j) (t.data.toList.drop j) = Op.bytesLess s.data.toList t.data.toList) ∧ Hid (j ≤ t.size) ∧ Kp none' w wr) (fun i _ => s.size - (intOf i).toNat)
  case atStart => exact ⟨0, Nat.zero_le _, rfl, rfl, Nat.zero_le _, Kp.refl _ _⟩
  case round =>
    obtain ⟨j, hj, rfl, He, Hj', hg⟩ := hrel
    by_cases h1 : j < s.size
    · have h1' : (j : Int) < (s.size : Int) := by omega
      by_cases h2 : j < t.size
      · have h2' : (j : Int) < (t.size : Int) := by omega
        have Hd1 : Hid (s.data.toList.drop j = s[j] :: s.data.toList.drop (j + 1)) := dropN_cons s j h1
        have Hd2 : Hid (t.data.toList.drop j = t[j] :: t.data.toList.drop (j + 1)) := dropN_cons t j h2
        by_cases hc : s[j] = t[j]
        · have hc' : ((s[j].toNat : Int) == (t[j].toNat : Int)) = true := by simp [hc]
          have He2 : Hid (Op.bytesLess (s.data.toList.drop (j + 1)) (t.data.toList.drop (j + 1)) = Op.bytesLess s.data.toList t.data.toList) := by
            show _ = _
            rw [← He.out, Hd1.out, Hd2.out, hc, bl_eq]
          clear hc
          go_upto_region 4 with fail
          go_quiet (fail)
          go_wp2_with fail
          go_roundw
          case rel => exact ⟨j + 1, by omega, by go_num, He2, by show _ ≤ _; omega, hg.thenN (Kp.drewN _ _ _)⟩
          case measure => simp [intOf]; omega
        · have hc' : ((s[j].toNat : Int) == (t[j].toNat : Int)) = false := by
            rw [beq_eq_false_iff_ne]
            intro h
            exact hc (UInt8.toNat_inj.1 (by omega))
          have HF : Hid (Op.bytesLess s.data.toList t.data.toList = decide (s[j].toNat < t[j].toNat)) := by
            show _ = _
            rw [← He.out, Hd1.out, Hd2.out, bl_lt _ _ _ _ hc]
          clear hc
          go_upto_region 4 with fail
          go_quiet (fail)
          go_upto_region 5 with fail
          go_quiet (fail)
          go_wp2
          go_ret
          rw [HF.out]
          exact ⟨by simp, (hg.thenN (Kp.drewN _ _ _)).thenN (Kp.drewN _ _ _)⟩
      · have h2' : ¬ (j : Int) < (t.size : Int) := by omega
        have HF : Hid (Op.bytesLess s.data.toList t.data.toList = false) := by
          show _ = _
          rw [← He.out, dropN_cons s j h1, dropN_end t j h2]
          rfl
        have h3 : ¬ (s.size : Int) < (t.size : Int) := by omega
        go_wp2
        go_ret
        rw [HF.out]
        exact ⟨rfl, hg⟩
    · have h1' : ¬ (j : Int) < (s.size : Int) := by omega
      by_cases h2 : s.size < t.size
      · have h2' : (s.size : Int) < (t.size : Int) := by omega
        have HF : Hid (Op.bytesLess s.data.toList t.data.toList = true) := by
          show _ = _
          rw [← He.out, dropN_cons t j (by omega), dropN_end s j h1]
          rfl
        go_wp2
        go_ret
        rw [HF.out]
        exact ⟨rfl, hg⟩
      · have h2' : ¬ (s.size : Int) < (t.size : Int) := by omega
        have HF : Hid (Op.bytesLess s.data.toList t.data.toList = false) := by
          show _ = _
          rw [← He.out, dropN_end t j (by have := Hj'.out; omega), dropN_end s j h1]
          rfl
        go_wp2
        go_ret
        rw [HF.out]
        exact ⟨rfl, hg⟩

set_option maxRecDepth 100000 in
set_option maxHeartbeats 400000 in
theorem rpair_any (p : Pr) (w : World) :
    Calls Tryd.prog 71 #[.agg #[.string p.k, .string p.v]] w fun e w' => e = .returned (.int .i64 (wrap64 p.size)) ∧ Kp none' w w' := by
  go_enter Tryd.func71, Tryd.ntmps71
  go_wp2
  go_ret
  refine ⟨reti ?_, Kp.alloc _ _ _⟩
  unfold Pr.size
  first | omega | (unfold wrap64; push_cast; omega)

end Go.Proofs.YtponhibiomcidaaDoor
