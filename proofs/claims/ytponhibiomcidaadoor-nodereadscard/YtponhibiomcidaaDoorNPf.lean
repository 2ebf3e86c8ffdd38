/- Contracts, over the turned program: where a key is. Conditions: those that each theorem states. -/
import Derived.Test.YtponhibiomcidaaDoorNPa
namespace Go.Proofs.YtponhibiomcidaaDoor
open Go Go.RowKit
set_option linter.unusedVariables false

theorem lss_b (a b : ByteArray) : Op.bytesLess a.toList b.toList = lessB a b := by unfold lessB; rw [ByteArray.toList_eq, ByteArray.toList_eq]

set_option maxRecDepth 100000 in
set_option maxHeartbeats 800000 in
theorem find_any (x : Value) (n : Nd) (B : Nat) (k : ByteArray) (w : World) (hN : Nv B w x n) :
    Calls Tryd.prog 52 #[x, .string k] w fun e w' => e = .returned (.tuple #[.int .i64 (findN n.ps k), .bool (hasN n.ps k)]) ∧ Kp none' w w' := by
  obtain ⟨⟨pv, kv, dv, rfl, hP, hS, hD⟩, hwf⟩ := hN
  obtain ⟨a, c, rfl, hlc, hcm, ha⟩ := hP
  have hb := Nb.new w n.leaf (.slice a n.ps.length c) kv dv
  obtain ⟨lf, ps, ks, kd⟩ := n
  dsimp only at *
  unfold maxLen at hcm
  have HA : Hid (∀ i (h : i < ps.length), ∃ b off, a = some ⟨b, off, none⟩ ∧ b < B ∧ w.cell? ⟨b, off + i * 2, none⟩ = some (.string ps[i].k) ∧ w.cell? ⟨b, off + i * 2 + 1, none⟩ = some (.string ps[i].v)) := ha
  clear ha
  have hK0 : Kp none' w (w.alloc (.cells #[.bool lf, .slice a ps.length c, kv, dv] 27)) := Kp.alloc _ _ _
  have hc1 := hb.c1
  go_enter Tryd.func52, Tryd.ntmps52
  go_wp2
  generalize w.alloc (.cells #[.bool lf, .slice a ps.length c, kv, dv] 27) = w0 at *
  go_loopw [6, 8, 12] (fun t _ u wr => ∃ j : Nat, j ≤ ps.length ∧ u = .int .i64 j ∧ t = .int .i64 (findN (ps.take j) k) ∧ Kp none' w0 wr) (fun _ _ u _ => ps.length - (intOf u).toNat)
  case atStart => exact ⟨0, Nat.zero_le _, rfl, rfl, Kp.refl _ _⟩
  case round =>
    obtain ⟨j, hj, rfl, rfl, hK⟩ := hrel
    have hc1 := (hb.kept hK (fun h => h)).c1
    by_cases hlt : j < ps.length
    · obtain ⟨b, o, rfl, _, hc', hd'⟩ := HA.out j hlt
      have hc := (hK0.thenN hK).cell hc' (fun h => h)
      have hd := (hK0.thenN hK).cell hd' (fun h => h)
      clear hc' hd'
      have hlt' : (j : Int) < (ps.length : Int) := by omega
      have HT : Hid (findN (ps.take (j + 1)) k = findN (ps.take j) k + (if lessB ps[j].k k then 1 else 0)) := by
        show _ = _
        rw [List.take_succ_eq_append_getElem hlt]
        unfold findN
        rw [List.filter_append, List.length_append]
        cases h : lessB ps[j].k k <;> simp [h]
      have HC : Hid (findN (ps.take j) k ≤ j) := by
        show _ ≤ _
        unfold findN
        refine Nat.le_trans (List.length_filter_le _ _) ?_
        simp
        omega
      generalize ps[j] = y at *
      have hl := lss_b y.k k
      have hKa : Kp none' wr (wr.alloc (.cells #[.string y.k, .string y.v] 51)) := Kp.alloc _ _ _
      cases hy : lessB y.k k with
      | false =>
        rw [hy] at hl
        go_wp2
        go_roundw
        case rel => exact ⟨j + 1, by omega, by go_num, by rw [HT.out, hy]; simp, hK.thenN hKa⟩
        case measure => simp [intOf]; omega
      | true =>
        rw [hy] at hl
        go_wp2
        go_roundw
        case rel =>
          refine ⟨j + 1, by omega, by go_num, ?_, hK.thenN hKa⟩
          rw [HT.out, hy]
          have := HC.out
          have e : ((findN (ps.take j) k + (if true = true then 1 else 0) : Nat) : Int) = (findN (ps.take j) k : Int) + 1 := by simp
          rw [e]
          generalize findN (ps.take j) k = q at *
          exact congrArg (Value.int .i64) (by unfold wrap64; omega)
        case measure => simp [intOf]; omega
    · have hlt' : ¬ (j : Int) < (ps.length : Int) := by omega
      have hje : j = ps.length := by omega
      subst hje
      rw [List.take_length] at *
      have HF : Hid (hasN ps k = (match ps[findN ps k]? with | some p => decide (p.k = k) | none => false)) := by
        show _ = _
        unfold hasN
        rfl
      by_cases hf : findN ps k < ps.length
      · obtain ⟨b, o, rfl, _, hc', _⟩ := HA.out _ hf
        have hc := (hK0.thenN hK).cell hc' (fun h => h)
        clear hc'
        have hf' : (findN ps k : Int) < (ps.length : Int) := by omega
        have HX : Hid (ps[findN ps k]? = some ps[findN ps k]) := List.getElem?_eq_getElem hf
        generalize ps[findN ps k] = y at *
        have HE : Hid (hasN ps k = (y.k.toList == k.toList)) := by
          show _ = _
          rw [HF.out, HX.out, textEq]
        clear HF HX
        generalize hq : findN ps k = q at *
        have Hq : Hid (findN ps k = q) := hq
        clear hq
        go_upto_region 8 with fail
        go_quiet (fail)
        go_wp2
        go_ret2
        rw [HE.out, Hq.out]
        exact ⟨rfl, hK0.thenN (hK.thenN (Kp.drewN _ _ _))⟩
      · have hf' : ¬ (findN ps k : Int) < (ps.length : Int) := by omega
        have HX : Hid (ps[findN ps k]? = none) := List.getElem?_eq_none (by omega)
        have HE : Hid (hasN ps k = false) := by
          show _ = _
          rw [HF.out, HX.out]
        clear HF HX
        generalize hq : findN ps k = q at *
        have Hq : Hid (findN ps k = q) := hq
        clear hq
        go_upto_region 8 with fail
        go_quiet (fail)
        go_wp2
        go_ret2
        rw [HE.out, Hq.out]
        exact ⟨rfl, hK0.thenN (hK.thenN (Kp.drewN _ _ _))⟩

end Go.Proofs.YtponhibiomcidaaDoor
