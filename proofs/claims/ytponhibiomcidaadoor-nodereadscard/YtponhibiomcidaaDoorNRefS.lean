/- Contracts, over the turned program: what the document's Size and ordered answer. Conditions: those that each theorem states. -/
import Derived.Test.YtponhibiomcidaaDoorNRef
namespace Go.Proofs.YtponhibiomcidaaDoor
open Go Go.RowKit
set_option linter.unusedVariables false

theorem wrap_add (a b : Int) : wrap64 (wrap64 a + wrap64 b) = wrap64 (a + b) := by unfold wrap64; omega
theorem wrap_addl (a b : Int) : wrap64 (wrap64 a + b) = wrap64 (a + b) := by unfold wrap64; omega
theorem sum_take (f : Pr → Nat) (l : List Pr) (j : Nat) (h : j < l.length) : ((l.take (j + 1)).map f).sum = ((l.take j).map f).sum + f l[j] := by
  rw [List.take_succ_eq_append_getElem h, List.map_append, List.sum_append]; simp
theorem sum_takeK (f : ByteArray → Nat) (l : List ByteArray) (j : Nat) (h : j < l.length) : ((l.take (j + 1)).map f).sum = ((l.take j).map f).sum + f l[j] := by
  rw [List.take_succ_eq_append_getElem h, List.map_append, List.sum_append]; simp

set_option maxRecDepth 100000 in
set_option maxHeartbeats 800000 in
theorem rsize9_any (x : Value) (n : Nd) (B : Nat) (w : World) (hN : Nv B w x n) :
    Calls Tryd.prog 49 #[x] w fun e w' => e = .returned (.int .i64 (wrap64 n.size)) ∧ Kp none' w w' := by
  obtain ⟨⟨pv, kv, dv, rfl, hP, hS, hD⟩, hwf⟩ := hN
  have hb := Nb.new w n.leaf pv kv dv
  have hwp := hwf.p
  have hwk := hwf.k
  obtain ⟨lf, ps, ks, kd⟩ := n
  dsimp only at *
  have hK0 : Kp none' w (w.alloc (.cells #[.bool lf, pv, kv, dv] 27)) := Kp.alloc _ _ _
  cases lf with
  | true =>
    obtain ⟨a, c, rfl, hlc, hcm, ha⟩ := hP
    unfold maxLen at hcm
    have HA : Hid (∀ i (h : i < ps.length), ∃ b off, a = some ⟨b, off, none⟩ ∧ b < B ∧ w.cell? ⟨b, off + i * 2, none⟩ = some (.string ps[i].k) ∧ w.cell? ⟨b, off + i * 2 + 1, none⟩ = some (.string ps[i].v)) := ha
    clear ha
    have hb0 := hb.c0
    go_enter Tryd.func49, Tryd.ntmps49
    go_wp2
    generalize w.alloc (.cells #[.bool true, .slice a ps.length c, kv, dv] 27) = w0 at *
    go_loopw [3, 5] (fun t u wr => ∃ j : Nat, j ≤ ps.length ∧ u = .int .i64 j ∧ t = .int .i64 (wrap64 (2 + ((ps.take j).map Pr.size).sum : Nat)) ∧ Kp none' w0 wr) (fun _ u _ => ps.length - (intOf u).toNat)
    case atStart => exact ⟨0, Nat.zero_le _, rfl, by simp [wrap64], Kp.refl _ _⟩
    case round =>
      obtain ⟨j, hj, rfl, rfl, hK⟩ := hrel
      have hc1 := (hb.kept hK (fun h => h)).c1
      by_cases hlt : j < ps.length
      · obtain ⟨b, o, rfl, _, hc', hd'⟩ := HA.out j hlt
        have hc := (hK0.thenN hK).cell hc' (fun h => h)
        have hd := (hK0.thenN hK).cell hd' (fun h => h)
        clear hc' hd'
        have hlt' : (j : Int) < (ps.length : Int) := by omega
        have HT : Hid (((ps.take (j + 1)).map Pr.size).sum = ((ps.take j).map Pr.size).sum + ps[j].size) := sum_take _ _ _ hlt
        generalize ps[j] = y at *
        generalize hs : ((ps.take j).map Pr.size).sum = sm at *
        go_wp2_with (go_at_call 71; refine (rpair_any y _).mono ?_; rintro e w' ⟨rfl, hK'⟩)
        go_roundw
        case rel =>
          refine ⟨j + 1, by omega, by go_num, ?_, hK.thenN hK'⟩
          rw [HT.out]
          exact congrArg (Value.int .i64) (by rw [wrap_add]; congr 1; push_cast; omega)
        case measure => simp [intOf]; omega
      · have hlt' : ¬ (j : Int) < (ps.length : Int) := by omega
        have hje : j = ps.length := by omega
        subst hje
        go_wp2
        go_ret
        refine ⟨?_, hK0.thenN hK⟩
        simp [Nd.size]
  | false =>
    obtain ⟨a, c, rfl, hlc, hcm, ha⟩ := hS
    unfold maxLen at hcm
    have HA : Hid (∀ i (h : i < ks.length), ∃ b off, a = some ⟨b, off, none⟩ ∧ b < B ∧ w.cell? ⟨b, off + i, none⟩ = some (.string ks[i])) := ha
    clear ha
    have hb0 := hb.c0
    go_enter Tryd.func49, Tryd.ntmps49
    go_wp2
    generalize w.alloc (.cells #[.bool false, pv, .slice a ks.length c, dv] 27) = w0 at *
    go_loopw [3, 4] (fun t u wr => ∃ j : Nat, j ≤ ks.length ∧ u = .int .i64 j ∧ t = .int .i64 (wrap64 (4 + ((ks.take j).map kSize).sum : Nat)) ∧ Kp none' w0 wr) (fun _ u _ => ks.length - (intOf u).toNat)
    case atStart => exact ⟨0, Nat.zero_le _, rfl, by simp [wrap64], Kp.refl _ _⟩
    case round =>
      obtain ⟨j, hj, rfl, rfl, hK⟩ := hrel
      have hc2 := (hb.kept hK (fun h => h)).c2
      by_cases hlt : j < ks.length
      · obtain ⟨b, o, rfl, _, hc'⟩ := HA.out j hlt
        have hc := (hK0.thenN hK).cell hc' (fun h => h)
        clear hc'
        have hlt' : (j : Int) < (ks.length : Int) := by omega
        have hm := hwk _ (List.getElem_mem hlt)
        have HT : Hid (((ks.take (j + 1)).map kSize).sum = ((ks.take j).map kSize).sum + kSize ks[j]) := sum_takeK _ _ _ hlt
        generalize ks[j] = y at *
        generalize hs : ((ks.take j).map kSize).sum = sm at *
        go_wp2
        go_roundw
        case rel =>
          refine ⟨j + 1, by omega, by go_num, ?_, hK⟩
          rw [HT.out]
          exact congrArg (Value.int .i64) (by unfold kSize; first | (rw [wrap_add]; congr 1; push_cast; omega) | (unfold wrap64; push_cast; omega))
        case measure => simp [intOf]; omega
      · have hlt' : ¬ (j : Int) < (ks.length : Int) := by omega
        have hje : j = ks.length := by omega
        subst hje
        go_wp2
        go_ret
        refine ⟨?_, hK0.thenN hK⟩
        simp [Nd.size]

end Go.Proofs.YtponhibiomcidaaDoor
