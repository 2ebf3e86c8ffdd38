/- Contracts, over the turned program: the document's parts of a text between a byte, and words of a line. Conditions: those that each theorem states. -/
import Derived.Test.YthopmlgfklhagaaGreatDoorJRa
import Derived.Test.YthopmlgfklhagaaGreatDoorJTd
namespace Go.Proofs.YthopmlgfklhagaaGreatDoor
open Go.RowKit
set_option linter.unusedVariables false

theorem ext_mk (s : ByteArray) (f i : Nat) (hf : f ≤ i) : s.extract f i = mkB ((s.data.toList.drop f).take (i - f)) := by
  apply ByteArray.ext
  apply Array.ext'
  rw [ext_list]
  simp [mkB]
theorem split_step (c : UInt8) (l : List UInt8) (f i : Nat) (hf : f ≤ i) (hi : i < l.length) (hc : l[i] = c) (hn : ∀ x ∈ (l.drop f).take (i - f), x ≠ c) : splitC c (l.drop f) = (l.drop f).take (i - f) :: splitC c (l.drop (i + 1)) := by
  have e : l.drop f = (l.drop f).take (i - f) ++ c :: l.drop (i + 1) := by
    have h1 := List.take_append_drop (i - f) (l.drop f)
    rw [List.drop_drop, show f + (i - f) = i by omega, List.drop_eq_getElem_cons hi, hc] at h1
    exact h1.symm
  have h2 := splitC_clean c ((l.drop f).take (i - f)) (l.drop (i + 1)) hn
  rw [← e] at h2
  exact h2
theorem take_more (l : List UInt8) (f i : Nat) (hf : f ≤ i) (hi : i < l.length) : (l.drop f).take (i + 1 - f) = (l.drop f).take (i - f) ++ [l[i]] := by
  rw [show i + 1 - f = (i - f) + 1 by omega, List.take_succ_eq_append_getElem (by rw [List.length_drop]; omega), List.getElem_drop]
  simp only [show f + (i - f) = i by omega]

set_option maxRecDepth 100000 in
set_option maxHeartbeats 800000 in
theorem rsplit14_any (s : ByteArray) (c : UInt8) (w : World) (hs : s.size ≤ 1099511627776) :
    Calls Tryz.prog 13 #[.string s, .int .u8 c.toNat] w fun e w' => ∃ v, e = .returned v ∧ Ow Value.string 9 w' w.heap.size v ((splitC c s.data.toList).map mkB) ∧ Kp none' w w' := by
  obtain ⟨i0, hi, hz0, hz1, hz2⟩ := info_parts infoStrJ
  obtain ⟨B, HB⟩ : ∃ B, Hid (w.heap.size = B) := ⟨_, rfl⟩
  have hcl := c.toNat_lt
  have HL : Hid (s.data.toList.length = s.size) := Array.length_toList
  go_enter Tryz.func13, Tryz.ntmps13
  go_wp2
  go_loopw [5, 6, 7] (fun v f t wr => ∃ (k j : Nat) (P : List (List UInt8)), k ≤ s.size + 1 ∧ j ≤ k ∧ t = .int .i64 k ∧ f = .int .i64 j ∧ P.length ≤ k ∧ Ow Value.string 9 wr B v (P.map mkB) ∧ Kp none' w wr ∧ Hid ((k ≤ s.size → splitC c s.data.toList = P ++ splitC c (s.data.toList.drop j) ∧ ∀ x ∈ (s.data.toList.drop j).take (k - j), x ≠ c) ∧ (k = s.size + 1 → splitC c s.data.toList = P))) (fun _ _ t _ => s.size + 1 - (intOf t).toNat)
  case atStart => exact ⟨0, 0, [], Nat.zero_le _, Nat.le_refl _, rfl, rfl, Nat.zero_le _, Ow.nil _ _ _ _, Kp.refl _ _, ⟨fun _ => ⟨rfl, by simp⟩, fun h => absurd h (by omega)⟩⟩
  case round =>
    obtain ⟨k, j, P, hk, hj, rfl, rfl, hP, hO, hK, HI⟩ := hrel
    by_cases hlt : k < s.size
    · by_cases hc : s[k] = c
      · have hb : ((s[k].toNat : Int) == (c.toNat : Int)) = true := by rw [hc]; simp
        obtain ⟨P2, HP2⟩ : ∃ P2, Hid (P2 = P ++ [(s.data.toList.drop j).take (k - j)]) := ⟨_, rfl⟩
        have HI2 : Hid ((k + 1 ≤ s.size → splitC c s.data.toList = P2 ++ splitC c (s.data.toList.drop (k + 1)) ∧ ∀ x ∈ (s.data.toList.drop (k + 1)).take (k + 1 - (k + 1)), x ≠ c) ∧ (k + 1 = s.size + 1 → splitC c s.data.toList = P2)) := by
          have h1 := HI.out.1 (by omega)
          have h2 := split_step c s.data.toList j k hj (by rw [HL.out]; exact hlt) hc h1.2
          refine ⟨fun _ => ⟨?_, by simp⟩, fun h => by omega⟩
          rw [h1.1, h2, HP2.out, List.append_assoc]
          rfl
        have HX := hide (ext_mk s j k hj)
        have HPm : Hid (P2.map mkB = P.map mkB ++ [mkB ((s.data.toList.drop j).take (k - j))]) := by show _ = _; rw [HP2.out, List.map_append]; rfl
        have HPl : Hid (P2.length ≤ k + 1) := by show _ ≤ _; rw [HP2.out, List.length_append, List.length_singleton]; omega
        obtain ⟨X, HX2⟩ : ∃ X, Hid (mkB ((s.data.toList.drop j).take (k - j)) = X) := ⟨_, rfl⟩
        rw [HX2.out] at HX HPm
        have Hb : Hid (((P.map mkB).length + 1) * 16 ≤ 140737488355328 ∧ (P.map mkB).length + 1 ≤ maxLen ∧ B ≤ (wr.alloc (.cells #[.string X] 9)).heap.size) := by
          have := hK.size
          have := HB.out
          rw [List.length_map]
          exact ⟨by omega, by unfold maxLen; omega, by simp; omega⟩
        have hO4 := World.ownsRow.alloc hO (.cells #[.string X] 9)
        have hX := HX.out
        clear hc HI
        go_wp2_with (at_builtin; refine wpList_append_row _ rfl (.tmp 25) (.tmp 30) 40 40 rfl B 9 i0 _ 1 16 Tryz.underlying40 hi hz0 rfl hz1 hz2 _ _ _ rfl hO4 _ 1 [.string X] rfl (src_cell _ 40 9 Tryz.underlying40 _ rfl _ rfl) (by omega) Hb.out.1 Hb.out.2.1 Hb.out.2.2 ?_; intro v4 w4 hO5 hg4 hv4)
        have hk4 := ((Kp.alloc (fun k => u5.ownBlock = some k) wr (.cells #[.string X] 9))).then (Kp.ofGrown hg4 (fun k hk _ => hk))
        go_roundw
        case rel => exact ⟨k + 1, k + 1, P2, by omega, Nat.le_refl _, by go_num, by go_num, HPl.out, by rw [HPm.out]; unfold Ow; rw [List.map_append, List.length_append]; exact hO5, hK.trans hk4 (fun _ _ h => h) (fun i hi h => absurd hi (by have := (hO.lt i h).1; have := HB.out; omega)), HI2.out⟩
        case measure => simp [intOf]; omega
      · have hb : ((s[k].toNat : Int) == (c.toNat : Int)) = false := by
          rw [beq_eq_false_iff_ne]
          intro h
          exact hc (UInt8.toNat_inj.1 (by omega))
        have HI2 : Hid ((k + 1 ≤ s.size → splitC c s.data.toList = P ++ splitC c (s.data.toList.drop j) ∧ ∀ x ∈ (s.data.toList.drop j).take (k + 1 - j), x ≠ c) ∧ (k + 1 = s.size + 1 → splitC c s.data.toList = P)) := by
          have h1 := HI.out.1 (by omega)
          refine ⟨fun _ => ⟨h1.1, fun x hx => ?_⟩, fun h => by omega⟩
          rw [take_more s.data.toList j k hj (by rw [HL.out]; exact hlt)] at hx
          rcases List.mem_append.1 hx with h2 | h2
          · exact h1.2 x h2
          · rw [List.mem_singleton.1 h2]; exact hc
        clear hc HI
        go_wp2_with fail
        go_roundw
        case rel => exact ⟨k + 1, j, P, by omega, by omega, by go_num, rfl, by omega, hO, hK, HI2.out⟩
        case measure => simp [intOf]; omega
    · by_cases he : k = s.size
      · have hb : ((k : Int) == (s.size : Int)) = true := by rw [he]; simp
        obtain ⟨P2, HP2⟩ : ∃ P2, Hid (P2 = P ++ [(s.data.toList.drop j).take (k - j)]) := ⟨_, rfl⟩
        have HI2 : Hid ((k + 1 ≤ s.size → splitC c s.data.toList = P2 ++ splitC c (s.data.toList.drop (k + 1)) ∧ ∀ x ∈ (s.data.toList.drop (k + 1)).take (k + 1 - (k + 1)), x ≠ c) ∧ (k + 1 = s.size + 1 → splitC c s.data.toList = P2)) := by
          have h1 := HI.out.1 (by omega)
          refine ⟨fun h => by omega, fun _ => ?_⟩
          have e1 : (s.data.toList.drop j).take (k - j) = s.data.toList.drop j := List.take_of_length_le (by rw [List.length_drop, HL.out]; omega)
          have h2 := splitC_one c (s.data.toList.drop j) (by rw [e1] at h1; exact h1.2)
          rw [h1.1, h2, HP2.out, e1]
        have HX := hide (ext_mk s j k hj)
        have HPm : Hid (P2.map mkB = P.map mkB ++ [mkB ((s.data.toList.drop j).take (k - j))]) := by show _ = _; rw [HP2.out, List.map_append]; rfl
        have HPl : Hid (P2.length ≤ k + 1) := by show _ ≤ _; rw [HP2.out, List.length_append, List.length_singleton]; omega
        obtain ⟨X, HX2⟩ : ∃ X, Hid (mkB ((s.data.toList.drop j).take (k - j)) = X) := ⟨_, rfl⟩
        rw [HX2.out] at HX HPm
        have Hb : Hid (((P.map mkB).length + 1) * 16 ≤ 140737488355328 ∧ (P.map mkB).length + 1 ≤ maxLen ∧ B ≤ (wr.alloc (.cells #[.string X] 9)).heap.size) := by
          have := hK.size
          have := HB.out
          rw [List.length_map]
          exact ⟨by omega, by unfold maxLen; omega, by simp; omega⟩
        have hO4 := World.ownsRow.alloc hO (.cells #[.string X] 9)
        have hX := HX.out
        have hle : (k : Int) ≤ (s.size : Int) := by omega
        have hkk : k ≤ s.size := by omega
        clear HI he hlt
        go_wp2_with (at_builtin; refine wpList_append_row _ rfl (.tmp 25) (.tmp 30) 40 40 rfl B 9 i0 _ 1 16 Tryz.underlying40 hi hz0 rfl hz1 hz2 _ _ _ rfl hO4 _ 1 [.string X] rfl (src_cell _ 40 9 Tryz.underlying40 _ rfl _ rfl) (by omega) Hb.out.1 Hb.out.2.1 Hb.out.2.2 ?_; intro v4 w4 hO5 hg4 hv4)
        have hk4 := ((Kp.alloc (fun k => u5.ownBlock = some k) wr (.cells #[.string X] 9))).then (Kp.ofGrown hg4 (fun k hk _ => hk))
        go_roundw
        case rel => exact ⟨k + 1, k + 1, P2, by omega, Nat.le_refl _, by go_num, by go_num, HPl.out, by rw [HPm.out]; unfold Ow; rw [List.map_append, List.length_append]; exact hO5, hK.trans hk4 (fun _ _ h => h) (fun i hi h => absurd hi (by have := (hO.lt i h).1; have := HB.out; omega)), HI2.out⟩
        case measure => simp [intOf]; omega
      · have HR : Hid (splitC c s.data.toList = P) := HI.out.2 (by omega)
        clear HI
        go_wp2
        go_ret
        rw [HR.out]
        exact ⟨_, rfl, by rw [HB.out]; exact hO, hK⟩

theorem wordsL_map (s : List UInt8) : wordsL s = (splitC 32 s).filter (fun w => !w.isEmpty) := rfl
theorem empty_is (l : List UInt8) : ((mkB l).toList == []) = l.isEmpty := by
  rw [ByteArray.toList_eq, mkB_list]
  cases l <;> rfl
theorem splitC_len (c : UInt8) : ∀ l : List UInt8, (splitC c l).length ≤ l.length + 1
  | [] => by simp [splitC]
  | x :: r => by
    have h := splitC_len c r
    unfold splitC
    split
    · simp only [List.length_cons]; omega
    · split
      · simp
      · next h2 => rw [h2] at h; simp only [List.length_cons] at h ⊢; omega

set_option maxRecDepth 100000 in
set_option maxHeartbeats 800000 in
theorem rwords_any (s : ByteArray) (w : World) (hs : s.size ≤ 1099511627776) :
    Calls Tryz.prog 14 #[.string s] w fun e w' => ∃ v, e = .returned v ∧ Ow Value.string 9 w' w.heap.size v ((wordsL s.data.toList).map mkB) ∧ Kp none' w w' := by
  obtain ⟨i0, hi, hz0, hz1, hz2⟩ := info_parts infoStrJ
  obtain ⟨L, HLL⟩ : ∃ L, Hid (splitC 32 s.data.toList = L) := ⟨_, rfl⟩
  have HW : Hid (wordsL s.data.toList = L.filter (fun w => !w.isEmpty)) := by show _ = _; rw [wordsL_map, HLL.out]
  have hLm : L.length ≤ 1099511627777 := by
    have h1 := splitC_len 32 s.data.toList
    have h2 : s.data.toList.length = s.size := Array.length_toList
    have h3 := congrArg List.length HLL.out
    omega
  go_enter Tryz.func14, Tryz.ntmps14
  go_wp2_with fail
  refine (rsplit14_any s 32 _ hs).mono ?_
  rintro e w1 ⟨v, rfl, hS, hK1⟩
  rw [HLL.out] at hS
  have hsl := hS.sl
  have hS1 := hide hS
  obtain ⟨a, cp, rfl, _, _, ha⟩ := hsl
  rw [List.length_map]
  have Ha := hide ha
  clear ha hS
  obtain ⟨B, HB⟩ : ∃ B, Hid (w1.heap.size = B) := ⟨_, rfl⟩
  go_wp2_with fail
  go_loopw [3, 5] (fun v t wr => ∃ (k : Nat) (P : List (List UInt8)), k ≤ L.length ∧ t = .int .i64 k ∧ P.length ≤ k ∧ Ow Value.string 9 wr B v (P.map mkB) ∧ Kp none' w1 wr ∧ Hid (P = (L.take k).filter (fun w => !w.isEmpty))) (fun _ t _ => L.length - (intOf t).toNat)
  case atStart => exact ⟨0, [], Nat.zero_le _, rfl, Nat.zero_le _, Ow.nil _ _ _ _, Kp.refl _ _, rfl⟩
  case round =>
    obtain ⟨k, P, hk, rfl, hP, hO, hK, HP⟩ := hrel
    by_cases hlt : k < L.length
    · obtain ⟨g, o, rfl, _, hc⟩ := Ha.out k (by rw [List.length_map]; exact hlt)
      have hc2 := hK.cell hc (fun h => h)
      rw [List.getElem_map] at hc2
      have Htk : Hid ((L.take (k + 1)).filter (fun w => !w.isEmpty) = P ++ (if L[k].isEmpty then [] else [L[k]])) := by
        show _ = _
        rw [List.take_succ_eq_append_getElem hlt, List.filter_append, ← HP.out]
        congr 1
        cases he : L[k].isEmpty <;> simp [he]
      have hem := empty_is L[k]
      have hki : (k : Int) < (L.length : Int) := by omega
      clear hc
      cases he : L[k].isEmpty with
      | true =>
        rw [he] at hem Htk
        rw [if_pos rfl, List.append_nil] at Htk
        generalize mkB L[k] = X at hc2 hem
        have hem2 : (X.toList != []) = false := by rw [bne, hem]; rfl
        clear he
        go_wp2_with fail
        go_roundw
        case rel => exact ⟨k + 1, P, by omega, by go_num, by omega, hO, hK, Htk.out.symm⟩
        case measure => simp [intOf]; omega
      | false =>
        rw [he] at hem Htk
        rw [if_neg (by simp)] at Htk
        have HPm : Hid ((P ++ [L[k]]).map mkB = P.map mkB ++ [mkB L[k]]) := by show _ = _; rw [List.map_append]; rfl
        generalize mkB L[k] = X at hc2 hem HPm
        have hem2 : (X.toList != []) = true := by rw [bne, hem]; rfl
        clear he
        have Hb : Hid (((P.map mkB).length + 1) * 16 ≤ 140737488355328 ∧ (P.map mkB).length + 1 ≤ maxLen ∧ B ≤ (wr.alloc (.cells #[.string X] 9)).heap.size) := by
          have := hK.size
          have := HB.out
          rw [List.length_map]
          exact ⟨by omega, by unfold maxLen; omega, by simp; omega⟩
        have hO4 := World.ownsRow.alloc hO (.cells #[.string X] 9)
        go_wp2_with (at_builtin; refine wpList_append_row _ rfl (.tmp 19) (.tmp 24) 40 40 rfl B 9 i0 _ 1 16 Tryz.underlying40 hi hz0 rfl hz1 hz2 _ _ _ rfl hO4 _ 1 [.string X] rfl (src_cell _ 40 9 Tryz.underlying40 _ rfl _ rfl) (by omega) Hb.out.1 Hb.out.2.1 Hb.out.2.2 ?_; intro v4 w4 hO5 hg4 hv4)
        have hk4 := ((Kp.alloc (fun k => u3.ownBlock = some k) wr (.cells #[.string X] 9))).then (Kp.ofGrown hg4 (fun k hk _ => hk))
        go_roundw
        case rel => exact ⟨k + 1, P ++ [L[k]], by omega, by go_num, by rw [List.length_append, List.length_singleton]; omega, by rw [HPm.out]; unfold Ow; rw [List.map_append, List.length_append]; exact hO5, hK.trans hk4 (fun _ _ h => h) (fun i hi h => absurd hi (by have := (hO.lt i h).1; have := HB.out; omega)), Htk.out.symm⟩
        case measure => simp [intOf]; omega
    · have HR : Hid (wordsL s.data.toList = P) := by
        show _ = _
        rw [HW.out, HP.out, List.take_of_length_le (by omega)]
      go_wp2
      go_ret
      rw [HR.out]
      refine ⟨_, rfl, ?_, hK1.trans hK (fun _ _ h => h) (fun i hi h => absurd h (fun h => h))⟩
      have hle := hK1.size
      refine ⟨hO.1, ?_⟩
      rcases hO.2 with hn | ⟨g, cap, cur, rfl, hb2, rest⟩
      · exact .inl hn
      · exact .inr ⟨g, cap, cur, rfl, by have := HB.out; omega, rest⟩

end Go.Proofs.YthopmlgfklhagaaGreatDoor
