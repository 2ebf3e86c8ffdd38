/- Contracts, over the turned program: the sizes of pairs, keys and nodes. Conditions: those that each theorem states. -/
import Derived.Test.YtponhibiomcidaaDoorNRefS
namespace Go.Proofs.YtponhibiomcidaaDoor
open Go Go.RowKit
set_option linter.unusedVariables false

set_option maxRecDepth 100000 in
set_option maxHeartbeats 400000 in
theorem pairSize_any (p : Pr) (w : World) :
    Calls Tryd.prog 26 #[.agg #[.string p.k, .string p.v]] w fun e w' => e = .returned (.int .i64 (wrap64 p.size)) ∧ Kp none' w w' := by
  go_enter Tryd.func26, Tryd.ntmps26
  go_wp2
  go_ret
  refine ⟨reti ?_, Kp.alloc _ _ _⟩
  unfold Pr.size
  first | omega | (unfold wrap64; push_cast; omega)
set_option maxRecDepth 100000 in
set_option maxHeartbeats 400000 in
theorem keySize_any (k : ByteArray) (w : World) :
    Calls Tryd.prog 28 #[.string k] w fun e w' => e = .returned (.int .i64 (wrap64 (kSize k))) ∧ Kp none' w w' := by
  go_enter Tryd.func28, Tryd.ntmps28
  go_wp2
  go_ret
  refine ⟨reti ?_, Kp.refl _ _⟩
  unfold kSize
  first | omega | (unfold wrap64; push_cast; omega)
/-- A loaded pair is stored in a block of its own. -/
theorem pr_new (w : World) (p : Pr) : (w.alloc (.cells #[.string p.k, .string p.v] 51)).cell? ⟨w.heap.size, 0, none⟩ = some (.string p.k) ∧ (w.alloc (.cells #[.string p.k, .string p.v] 51)).cell? ⟨w.heap.size, 1, none⟩ = some (.string p.v) := by
  have h := heap_alloc_new w (.cells #[.string p.k, .string p.v] 51)
  constructor
  · rw [cell_of_row _ w.heap.size 0 _ 51 (0, 0) h]; rfl
  · rw [cell_of_row _ w.heap.size 1 _ 51 (0, 0) h]; rfl
set_option maxRecDepth 100000 in
set_option maxHeartbeats 800000 in
theorem sumP_any (v : Value) (ps : List Pr) (B : Nat) (w : World) (hP : Prs B w v ps) :
    Calls Tryd.prog 25 #[v, .func (.func 26) #[] #[]] w fun e w' => e = .returned (.int .i64 (wrap64 ((ps.map Pr.size).sum : Nat))) ∧ Kp none' w w' := by
  obtain ⟨a, c, rfl, hlc, hcm, ha⟩ := hP
  unfold maxLen at hcm
  have HA : Hid (∀ i (h : i < ps.length), ∃ b off, a = some ⟨b, off, none⟩ ∧ b < B ∧ w.cell? ⟨b, off + i * 2, none⟩ = some (.string ps[i].k) ∧ w.cell? ⟨b, off + i * 2 + 1, none⟩ = some (.string ps[i].v)) := ha
  clear ha
  go_enter Tryd.func25, Tryd.ntmps25
  go_wp2
  go_loopw [5, 7, 10] (fun t _ u wr => ∃ j : Nat, j ≤ ps.length ∧ u = .int .i64 j ∧ t = .int .i64 (wrap64 (((ps.take j).map Pr.size).sum : Nat)) ∧ Kp none' w wr) (fun _ _ u _ => ps.length - (intOf u).toNat)
  case atStart => exact ⟨0, Nat.zero_le _, rfl, by simp [wrap64], Kp.refl _ _⟩
  case round =>
    obtain ⟨j, hj, rfl, rfl, hK⟩ := hrel
    by_cases hlt : j < ps.length
    · obtain ⟨b, o, rfl, _, hc', hd'⟩ := HA.out j hlt
      have hc := hK.cell hc' (fun h => h)
      have hd := hK.cell hd' (fun h => h)
      clear hc' hd'
      have hlt' : (j : Int) < (ps.length : Int) := by omega
      have HT : Hid (((ps.take (j + 1)).map Pr.size).sum = ((ps.take j).map Pr.size).sum + ps[j].size) := sum_take _ _ _ hlt
      generalize ps[j] = y at *
      generalize hs : ((ps.take j).map Pr.size).sum = sm at *
      go_wp2_with (go_at_call 26; refine (pairSize_any y _).mono ?_; rintro e w' ⟨rfl, hK'⟩)
      go_roundw
      case rel =>
        refine ⟨j + 1, by omega, by go_num, ?_, (hK.thenN (Kp.alloc _ _ _)).thenN hK'⟩
        rw [HT.out]
        exact congrArg (Value.int .i64) (by rw [wrap_add]; congr 1)
      case measure => simp [intOf]; omega
    · have hlt' : ¬ (j : Int) < (ps.length : Int) := by omega
      have hje : j = ps.length := by omega
      subst hje
      go_wp2
      go_ret
      exact ⟨rfl, hK⟩

set_option maxRecDepth 100000 in
set_option maxHeartbeats 800000 in
theorem sumK_any (v : Value) (ks : List ByteArray) (B : Nat) (w : World) (hS : Sl Value.string B w v ks) :
    Calls Tryd.prog 27 #[v, .func (.func 28) #[] #[]] w fun e w' => e = .returned (.int .i64 (wrap64 ((ks.map kSize).sum : Nat))) ∧ Kp none' w w' := by
  obtain ⟨a, c, rfl, hlc, hcm, ha⟩ := hS
  unfold maxLen at hcm
  have HA : Hid (∀ i (h : i < ks.length), ∃ b off, a = some ⟨b, off, none⟩ ∧ b < B ∧ w.cell? ⟨b, off + i, none⟩ = some (.string ks[i])) := ha
  clear ha
  go_enter Tryd.func27, Tryd.ntmps27
  go_wp2
  go_loopw [5, 7, 10] (fun t _ u wr => ∃ j : Nat, j ≤ ks.length ∧ u = .int .i64 j ∧ t = .int .i64 (wrap64 (((ks.take j).map kSize).sum : Nat)) ∧ Kp none' w wr) (fun _ _ u _ => ks.length - (intOf u).toNat)
  case atStart => exact ⟨0, Nat.zero_le _, rfl, by simp [wrap64], Kp.refl _ _⟩
  case round =>
    obtain ⟨j, hj, rfl, rfl, hK⟩ := hrel
    by_cases hlt : j < ks.length
    · obtain ⟨b, o, rfl, _, hc'⟩ := HA.out j hlt
      have hc := hK.cell hc' (fun h => h)
      clear hc'
      have hlt' : (j : Int) < (ks.length : Int) := by omega
      have HT : Hid (((ks.take (j + 1)).map kSize).sum = ((ks.take j).map kSize).sum + kSize ks[j]) := sum_takeK _ _ _ hlt
      generalize ks[j] = y at *
      generalize hs : ((ks.take j).map kSize).sum = sm at *
      go_wp2_with (go_at_call 28; refine (keySize_any y _).mono ?_; rintro e w' ⟨rfl, hK'⟩)
      go_roundw
      case rel =>
        refine ⟨j + 1, by omega, by go_num, ?_, hK.thenN hK'⟩
        rw [HT.out]
        exact congrArg (Value.int .i64) (by rw [wrap_add]; congr 1)
      case measure => simp [intOf]; omega
    · have hlt' : ¬ (j : Int) < (ks.length : Int) := by omega
      have hje : j = ks.length := by omega
      subst hje
      go_wp2
      go_ret
      exact ⟨rfl, hK⟩

set_option maxRecDepth 100000 in
set_option maxHeartbeats 800000 in
theorem nsize_any (x : Value) (n : Nd) (B : Nat) (w : World) (hN : Nv B w x n) :
    Calls Tryd.prog 10 #[x] w fun e w' => e = .returned (.int .i64 (wrap64 n.size)) ∧ Kp none' w w' := by
  obtain ⟨⟨pv, kv, dv, rfl, hP, hS, hD⟩, hwf⟩ := hN
  have hb := Nb.new w n.leaf pv kv dv
  obtain ⟨lf, ps, ks, kd⟩ := n
  dsimp only at *
  have hK0 : Kp none' w (w.alloc (.cells #[.bool lf, pv, kv, dv] 27)) := Kp.alloc _ _ _
  have hP1 := hP.keptN hK0
  have hS1 := hS.keptN hK0
  cases lf with
  | true =>
    have hb0 := hb.c0
    have hb1 := hb.c1
    go_enter Tryd.func10, Tryd.ntmps10
    go_wp2_with (go_at_call 25; refine (sumP_any pv ps B _ hP1).mono ?_; rintro e w' ⟨rfl, hK'⟩)
    go_ret
    refine ⟨reti ?_, hK0.thenN hK'⟩
    have e : ((⟨true, ps, ks, kd⟩ : Nd).size : Int) = 2 + ((ps.map Pr.size).sum : Nat) := by simp [Nd.size]
    rw [e]
    generalize (ps.map Pr.size).sum = q
    unfold wrap64
    omega
  | false =>
    have hb0 := hb.c0
    have hb1 := hb.c2
    go_enter Tryd.func10, Tryd.ntmps10
    go_wp2_with (go_at_call 27; refine (sumK_any kv ks B _ hS1).mono ?_; rintro e w' ⟨rfl, hK'⟩)
    go_ret
    refine ⟨reti ?_, hK0.thenN hK'⟩
    have e : ((⟨false, ps, ks, kd⟩ : Nd).size : Int) = 4 + ((ks.map kSize).sum : Nat) := by simp [Nd.size]
    rw [e]
    generalize (ks.map kSize).sum = q
    unfold wrap64
    omega

end Go.Proofs.YtponhibiomcidaaDoor
