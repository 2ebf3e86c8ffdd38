/- Contracts, over the turned program: what the document's pair, Size, ordered, Right, Child and Find answer of nodes that came in. Conditions: those that each theorem states. -/
import Derived.Test.YtjmkfkmdafjgnaaNDefs
namespace Go.Proofs.Ytjmkfkmdafjgnaa
open Go Go.RowKit
set_option linter.unusedVariables false

theorem bl_lt (a b : List UInt8) (x y : UInt8) (h : x ≠ y) : Op.bytesLess (x :: a) (y :: b) = decide (x.toNat < y.toNat) := by
  simp only [Op.bytesLess, UInt8.lt_iff_toNat_lt]
  have : (x == y) = false := by simp [h]
  simp [this]
theorem bl_eq (a b : List UInt8) (x : UInt8) : Op.bytesLess (x :: a) (x :: b) = Op.bytesLess a b := by
  have h : ¬ x < x := by rw [UInt8.lt_iff_toNat_lt]; omega
  simp [Op.bytesLess, h]
theorem dropN_cons (s : ByteArray) (j : Nat) (h : j < s.size) : s.data.toList.drop j = s[j] :: s.data.toList.drop (j + 1) := by
  rw [List.drop_eq_getElem_cons (by rw [len_data]; exact h)]
  rfl
theorem dropN_end (s : ByteArray) (j : Nat) (h : ¬ j < s.size) : s.data.toList.drop j = [] := List.drop_eq_nil_of_le (by rw [len_data]; omega)

set_option maxRecDepth 100000 in
set_option maxHeartbeats 400000 in
theorem nahead_any (s t : ByteArray) (w : World) (hs : s.size ≤ maxLen) (ht : t.size ≤ maxLen) :
    Calls Try.prog 36 #[.string s, .string t] w fun e w' => e = .returned (.bool (lessB s t)) ∧ Kp none' w w' := by
  unfold maxLen at hs ht
  unfold lessB
  go_enter Try.func36, Try.ntmps36
  go_wp2_with fail
  go_loopw [5] (fun i wr => ∃ j : Nat, j ≤ s.size ∧ i = .int .i64 j ∧ Hid (Op.bytesLess (s.data.toList.drop j) (t.data.toList.drop j) = Op.bytesLess s.data.toList t.data.toList) ∧ Hid (j ≤ t.size) ∧ Kp none' w wr) (fun i _ => s.size - (intOf i).toNat)
  case atStart => exact ⟨0, Nat.zero_le _, rfl, rfl, Nat.zero_le _, Kp.refl _ _⟩
  case round =>
    obtain ⟨j, hj, rfl, He, Hj', hg⟩ := hrel
    by_cases h1 : j < s.size
    · have h1' : (j : Int) < (s.size : Int) := by omega
      by_cases h2 : j < t.size
      · have h2' : (j : Int) < (t.size : Int) := by omega
        have Hd1 : Hid (s.data.toList.drop j = s[j] :: s.data.toList.drop (j + 1)) := dropN_cons s j h1
        have Hd2 : Hid (t.data.toList.drop j = t[j] :: t.data.toList.drop (j + 1)) := dropN_cons t j h2
        by_cases hc : s[j] = t[j]
        · have hc' : ((s[j].toNat : Int) == (t[j].toNat : Int)) = true := by simp [hc]
          have He2 : Hid (Op.bytesLess (s.data.toList.drop (j + 1)) (t.data.toList.drop (j + 1)) = Op.bytesLess s.data.toList t.data.toList) := by
            show _ = _
            rw [← He.out, Hd1.out, Hd2.out, hc, bl_eq]
          clear hc
          go_upto_region 4 with fail
          go_quiet (fail)
          go_wp2_with fail
          go_roundw
          case rel => exact ⟨j + 1, by omega, by go_num, He2, by show _ ≤ _; omega, hg.thenN (Kp.drewN _ _ _)⟩
          case measure => simp [intOf]; omega
        · have hc' : ((s[j].toNat : Int) == (t[j].toNat : Int)) = false := by
            rw [beq_eq_false_iff_ne]
            intro h
            exact hc (UInt8.toNat_inj.1 (by omega))
          have HF : Hid (Op.bytesLess s.data.toList t.data.toList = decide (s[j].toNat < t[j].toNat)) := by
            show _ = _
            rw [← He.out, Hd1.out, Hd2.out, bl_lt _ _ _ _ hc]
          clear hc
          go_upto_region 4 with fail
          go_quiet (fail)
          go_upto_region 5 with fail
          go_quiet (fail)
          go_wp2
          go_ret
          rw [HF.out]
          exact ⟨by simp, (hg.thenN (Kp.drewN _ _ _)).thenN (Kp.drewN _ _ _)⟩
      · have h2' : ¬ (j : Int) < (t.size : Int) := by omega
        have HF : Hid (Op.bytesLess s.data.toList t.data.toList = false) := by
          show _ = _
          rw [← He.out, dropN_cons s j h1, dropN_end t j h2]
          rfl
        have h3 : ¬ (s.size : Int) < (t.size : Int) := by omega
        go_wp2
        go_ret
        rw [HF.out]
        exact ⟨rfl, hg⟩
    · have h1' : ¬ (j : Int) < (s.size : Int) := by omega
      by_cases h2 : s.size < t.size
      · have h2' : (s.size : Int) < (t.size : Int) := by omega
        have HF : Hid (Op.bytesLess s.data.toList t.data.toList = true) := by
          show _ = _
          rw [← He.out, dropN_cons t j (by omega), dropN_end s j h1]
          rfl
        go_wp2
        go_ret
        rw [HF.out]
        exact ⟨rfl, hg⟩
      · have h2' : ¬ (s.size : Int) < (t.size : Int) := by omega
        have HF : Hid (Op.bytesLess s.data.toList t.data.toList = false) := by
          show _ = _
          rw [← He.out, dropN_end t j (by have := Hj'.out; omega), dropN_end s j h1]
          rfl
        go_wp2
        go_ret
        rw [HF.out]
        exact ⟨rfl, hg⟩

set_option maxRecDepth 100000 in
set_option maxHeartbeats 400000 in
theorem rpair_any (p : Pr) (w : World) :
    Calls Try.prog 35 #[.agg #[.string p.k, .string p.v]] w fun e w' => e = .returned (.int .i64 (wrap64 p.size)) ∧ Kp none' w w' := by
  go_enter Try.func35, Try.ntmps35
  go_wp2
  go_ret
  refine ⟨reti ?_, Kp.alloc _ _ _⟩
  unfold Pr.size
  first | omega | (unfold wrap64; push_cast; omega)

set_option maxRecDepth 100000 in
set_option maxHeartbeats 400000 in
theorem rchild_any (x : Value) (n : Nd) (B : Nat) (k : ByteArray) (w : World) (hN : Nv B w x n) (hk : k.size ≤ maxLen) :
    Calls Try.prog 15 #[x, .string k] w fun e w' => e = .returned (.int .i64 (childN n.ks k)) ∧ Kp none' w w' := by
  obtain ⟨⟨pv, kv, dv, rfl, hP, hS, hD⟩, hwf⟩ := hN
  obtain ⟨a, c, rfl, hlc, hcm, ha⟩ := hS
  have hb := Nb.new w n.leaf pv (.slice a n.ks.length c) dv
  have hwk := hwf.k
  obtain ⟨lf, ps, ks, kd⟩ := n
  dsimp only at *
  unfold maxLen at hcm
  have HA : Hid (∀ i (h : i < ks.length), ∃ b off, a = some ⟨b, off, none⟩ ∧ b < B ∧ w.cell? ⟨b, off + i, none⟩ = some (.string ks[i])) := ha
  clear ha
  have hK0 : Kp none' w (w.alloc (.cells #[.bool lf, pv, .slice a ks.length c, dv] 26)) := Kp.alloc _ _ _
  go_enter Try.func15, Try.ntmps15
  go_wp2
  generalize w.alloc (.cells #[.bool lf, pv, .slice a ks.length c, dv] 26) = w0 at *
  go_loopw [5, 6] (fun t u wr => ∃ j : Nat, j ≤ ks.length ∧ u = .int .i64 j ∧ t = .int .i64 (childN (ks.take j) k) ∧ Kp none' w0 wr) (fun _ u _ => ks.length - (intOf u).toNat)
  case atStart => exact ⟨0, Nat.zero_le _, rfl, rfl, Kp.refl _ _⟩
  case round =>
    obtain ⟨j, hj, rfl, rfl, hK⟩ := hrel
    have hc2 := (hb.kept hK (fun h => h)).c2
    by_cases hlt : j < ks.length
    · obtain ⟨b, o, rfl, _, hc'⟩ := HA.out j hlt
      have hc := (hK0.thenN hK).cell hc' (fun h => h)
      clear hc'
      have hlt' : (j : Int) < (ks.length : Int) := by omega
      have hm := hwk _ (List.getElem_mem hlt)
      have HT : Hid (childN (ks.take (j + 1)) k = childN (ks.take j) k + (if lessB k ks[j] then 0 else 1)) := by
        show _ = _
        rw [List.take_succ_eq_append_getElem hlt]
        unfold childN
        rw [List.filter_append, List.length_append]
        cases h : lessB k ks[j] <;> simp [h]
      have HC : Hid (childN (ks.take j) k ≤ j) := by
        show _ ≤ _
        unfold childN
        refine Nat.le_trans (List.length_filter_le _ _) ?_
        simp
        omega
      generalize ks[j] = y at *
      cases hy : lessB k y with
      | true =>
        go_wp2_with (go_at_call 36; refine (nahead_any _ _ _ hk hm).mono ?_; rintro e w' ⟨rfl, hK'⟩; rw [hy])
        go_roundw
        case rel => exact ⟨j + 1, by omega, by go_num, by rw [HT.out, hy]; simp, hK.thenN hK'⟩
        case measure => simp [intOf]; omega
      | false =>
        go_wp2_with (go_at_call 36; refine (nahead_any _ _ _ hk hm).mono ?_; rintro e w' ⟨rfl, hK'⟩; rw [hy])
        go_roundw
        case rel =>
          refine ⟨j + 1, by omega, by go_num, ?_, hK.thenN hK'⟩
          rw [HT.out, hy]
          have := HC.out
          have e : ((childN (ks.take j) k + (if false = true then 0 else 1) : Nat) : Int) = (childN (ks.take j) k : Int) + 1 := by simp
          rw [e]
          generalize childN (ks.take j) k = q at *
          exact congrArg (Value.int .i64) (by unfold wrap64; omega)
        case measure => simp [intOf]; omega
    · have hlt' : ¬ (j : Int) < (ks.length : Int) := by omega
      have hje : j = ks.length := by omega
      subst hje
      go_wp2
      go_ret
      exact ⟨rfl, hK0.thenN hK⟩

set_option maxRecDepth 100000 in
set_option maxHeartbeats 800000 in
theorem rfind_any (x : Value) (n : Nd) (B : Nat) (k : ByteArray) (w : World) (hN : Nv B w x n) (hk : k.size ≤ maxLen) :
    Calls Try.prog 13 #[x, .string k] w fun e w' => e = .returned (.tuple #[.int .i64 (findN n.ps k), .bool (hasN n.ps k)]) ∧ Kp none' w w' := by
  obtain ⟨⟨pv, kv, dv, rfl, hP, hS, hD⟩, hwf⟩ := hN
  obtain ⟨a, c, rfl, hlc, hcm, ha⟩ := hP
  have hb := Nb.new w n.leaf (.slice a n.ps.length c) kv dv
  have hwk := hwf.p
  obtain ⟨lf, ps, ks, kd⟩ := n
  dsimp only at *
  unfold maxLen at hcm
  have HA : Hid (∀ i (h : i < ps.length), ∃ b off, a = some ⟨b, off, none⟩ ∧ b < B ∧ w.cell? ⟨b, off + i * 2, none⟩ = some (.string ps[i].k) ∧ w.cell? ⟨b, off + i * 2 + 1, none⟩ = some (.string ps[i].v)) := ha
  clear ha
  have hK0 : Kp none' w (w.alloc (.cells #[.bool lf, .slice a ps.length c, kv, dv] 26)) := Kp.alloc _ _ _
  go_enter Try.func13, Try.ntmps13
  go_wp2
  generalize w.alloc (.cells #[.bool lf, .slice a ps.length c, kv, dv] 26) = w0 at *
  go_loopw [6, 7] (fun t u wr => ∃ j : Nat, j ≤ ps.length ∧ u = .int .i64 j ∧ t = .int .i64 (findN (ps.take j) k) ∧ Kp none' w0 wr) (fun _ u _ => ps.length - (intOf u).toNat)
  case atStart => exact ⟨0, Nat.zero_le _, rfl, rfl, Kp.refl _ _⟩
  case round =>
    obtain ⟨j, hj, rfl, rfl, hK⟩ := hrel
    have hc1 := (hb.kept hK (fun h => h)).c1
    by_cases hlt : j < ps.length
    · obtain ⟨b, o, rfl, _, hc', _⟩ := HA.out j hlt
      have hc := (hK0.thenN hK).cell hc' (fun h => h)
      clear hc'
      have hlt' : (j : Int) < (ps.length : Int) := by omega
      have hm := (hwk _ (List.getElem_mem hlt)).1
      have HT : Hid (findN (ps.take (j + 1)) k = findN (ps.take j) k + (if lessB ps[j].k k then 1 else 0)) := by
        show _ = _
        rw [List.take_succ_eq_append_getElem hlt]
        unfold findN
        rw [List.filter_append, List.length_append]
        cases h : lessB ps[j].k k <;> simp [h]
      have HC : Hid (findN (ps.take j) k ≤ j) := by
        show _ ≤ _
        unfold findN
        refine Nat.le_trans (List.length_filter_le _ _) ?_
        simp
        omega
      generalize ps[j] = y at *
      cases hy : lessB y.k k with
      | false =>
        go_wp2_with (go_at_call 36; refine (nahead_any _ _ _ hm hk).mono ?_; rintro e w' ⟨rfl, hK'⟩; rw [hy])
        go_roundw
        case rel => exact ⟨j + 1, by omega, by go_num, by rw [HT.out, hy]; simp, hK.thenN hK'⟩
        case measure => simp [intOf]; omega
      | true =>
        go_wp2_with (go_at_call 36; refine (nahead_any _ _ _ hm hk).mono ?_; rintro e w' ⟨rfl, hK'⟩; rw [hy])
        go_roundw
        case rel =>
          refine ⟨j + 1, by omega, by go_num, ?_, hK.thenN hK'⟩
          rw [HT.out, hy]
          have := HC.out
          have e : ((findN (ps.take j) k + (if true = true then 1 else 0) : Nat) : Int) = (findN (ps.take j) k : Int) + 1 := by simp
          rw [e]
          generalize findN (ps.take j) k = q at *
          exact congrArg (Value.int .i64) (by unfold wrap64; omega)
        case measure => simp [intOf]; omega
    · have hlt' : ¬ (j : Int) < (ps.length : Int) := by omega
      have hje : j = ps.length := by omega
      subst hje
      rw [List.take_length] at *
      have HF : Hid (hasN ps k = (match ps[findN ps k]? with | some p => decide (p.k = k) | none => false)) := by
        show _ = _
        unfold hasN
        rfl
      by_cases hf : findN ps k < ps.length
      · obtain ⟨b, o, rfl, _, hc', _⟩ := HA.out _ hf
        have hc := (hK0.thenN hK).cell hc' (fun h => h)
        clear hc'
        have hf' : (findN ps k : Int) < (ps.length : Int) := by omega
        have HX : Hid (ps[findN ps k]? = some ps[findN ps k]) := List.getElem?_eq_getElem hf
        generalize ps[findN ps k] = y at *
        have HE : Hid (hasN ps k = (y.k.toList == k.toList)) := by
          show _ = _
          rw [HF.out, HX.out, textEq]
        clear HF HX
        generalize hq : findN ps k = q at *
        have Hq : Hid (findN ps k = q) := hq
        clear hq
        go_upto_region 7 with fail
        go_quiet (fail)
        go_wp2
        go_ret2
        rw [HE.out, Hq.out]
        exact ⟨rfl, hK0.thenN (hK.thenN (Kp.drewN _ _ _))⟩
      · have hf' : ¬ (findN ps k : Int) < (ps.length : Int) := by omega
        have HX : Hid (ps[findN ps k]? = none) := List.getElem?_eq_none (by omega)
        have HE : Hid (hasN ps k = false) := by
          show _ = _
          rw [HF.out, HX.out]
        clear HF HX
        generalize hq : findN ps k = q at *
        have Hq : Hid (findN ps k = q) := hq
        clear hq
        go_upto_region 7 with fail
        go_quiet (fail)
        go_wp2
        go_ret2
        rw [HE.out, Hq.out]
        exact ⟨rfl, hK0.thenN (hK.thenN (Kp.drewN _ _ _))⟩

end Go.Proofs.Ytjmkfkmdafjgnaa
