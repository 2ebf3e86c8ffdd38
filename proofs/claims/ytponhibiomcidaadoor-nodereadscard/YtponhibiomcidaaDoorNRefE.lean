/- Contracts, over the turned program: the document's Same says yes of two nodes that are the same. Conditions: those that each theorem states. -/
import Derived.Test.YtponhibiomcidaaDoorNRef
namespace Go.Proofs.YtponhibiomcidaaDoor
open Go Go.RowKit
set_option linter.unusedVariables false

set_option maxRecDepth 100000 in
set_option maxHeartbeats 1000000 in
theorem rsame_any (x y : Value) (n : Nd) (B B' : Nat) (w : World) (hN : Nv B w x n) (hM : Nv B' w y n) :
    Calls Tryd.prog 7 #[x, y] w fun e w' => e = .returned (.bool true) ∧ Kp none' w w' := by
  obtain ⟨⟨pv, kv, dv, rfl, hP, hS, hD⟩, hwf⟩ := hN
  obtain ⟨⟨pv', kv', dv', rfl, hP', hS', hD'⟩, _⟩ := hM
  obtain ⟨lf, ps, ks, kd⟩ := n
  dsimp only at *
  obtain ⟨a1, c1, rfl, hl1, hm1, ha1⟩ := hP
  obtain ⟨a2, c2, rfl, hl2, hm2, ha2⟩ := hS
  obtain ⟨a3, c3, rfl, hl3, hm3, ha3⟩ := hD
  obtain ⟨e1, f1, rfl, _, _, hb1⟩ := hP'
  obtain ⟨e2, f2, rfl, _, _, hb2⟩ := hS'
  obtain ⟨e3, f3, rfl, _, _, hb3⟩ := hD'
  unfold maxLen at hm1 hm2 hm3
  have HA1 := hide ha1
  have HA2 := hide ha2
  have HA3 := hide ha3
  have HB1 := hide hb1
  have HB2 := hide hb2
  have HB3 := hide hb3
  clear ha1 ha2 ha3 hb1 hb2 hb3
  have hx0 : Nb (w.alloc (.cells #[.bool lf, .slice a1 ps.length c1, .slice a2 ks.length c2, .slice a3 kd.length c3] 27)) w.heap.size lf (.slice a1 ps.length c1) (.slice a2 ks.length c2) (.slice a3 kd.length c3) := Nb.new _ _ _ _ _
  have hy := Nb.new (w.alloc (.cells #[.bool lf, .slice a1 ps.length c1, .slice a2 ks.length c2, .slice a3 kd.length c3] 27)) lf (.slice e1 ps.length f1) (.slice e2 ks.length f2) (.slice e3 kd.length f3)
  have hx := hx0.kept (Kp.alloc none' _ (.cells #[.bool lf, .slice e1 ps.length f1, .slice e2 ks.length f2, .slice e3 kd.length f3] 27)) (fun h => h)
  have hK0 : Kp none' w ((w.alloc (.cells #[.bool lf, .slice a1 ps.length c1, .slice a2 ks.length c2, .slice a3 kd.length c3] 27)).alloc (.cells #[.bool lf, .slice e1 ps.length f1, .slice e2 ks.length f2, .slice e3 kd.length f3] 27)) := (Kp.alloc _ _ _).thenN (Kp.alloc _ _ _)
  have hlf : (lf != lf) = false := by cases lf <;> rfl
  rw [show (w.alloc (.cells #[.bool lf, .slice a1 ps.length c1, .slice a2 ks.length c2, .slice a3 kd.length c3] 27)).heap.size = w.heap.size + 1 by simp] at hy
  clear hx0
  go_enter Tryd.func7, Tryd.ntmps7
  go_wp2
  generalize (w.alloc (.cells #[.bool lf, .slice a1 ps.length c1, .slice a2 ks.length c2, .slice a3 kd.length c3] 27)).alloc (.cells #[.bool lf, .slice e1 ps.length f1, .slice e2 ks.length f2, .slice e3 kd.length f3] 27) = w0 at *
  go_loopw [5] (fun t wr => ∃ j : Nat, j ≤ ps.length ∧ t = .int .i64 j ∧ Kp none' w0 wr) (fun t _ => ps.length - (intOf t).toNat)
  case atStart => exact ⟨0, Nat.zero_le _, rfl, Kp.refl _ _⟩
  case round =>
    obtain ⟨j, hj, rfl, hK⟩ := hrel
    have x1 := (hx.kept hK (fun h => h)).c1
    have y1 := (hy.kept hK (fun h => h)).c1
    by_cases hlt : j < ps.length
    · obtain ⟨b, o, rfl, _, p1, p2⟩ := HA1.out j hlt
      obtain ⟨b', o', rfl, _, q1, q2⟩ := HB1.out j hlt
      have p1 := (hK0.thenN hK).cell p1 (fun h => h)
      have p2 := (hK0.thenN hK).cell p2 (fun h => h)
      have q1 := (hK0.thenN hK).cell q1 (fun h => h)
      have q2 := (hK0.thenN hK).cell q2 (fun h => h)
      have hlt' : (j : Int) < (ps.length : Int) := by omega
      generalize ps[j] = z at *
      go_upto_region 6 with fail
      go_quiet (fail)
      go_wp2
      go_roundw
      case rel => exact ⟨j + 1, by omega, by go_num, hK.thenN (Kp.drewN _ _ _)⟩
      case measure => simp [intOf]; omega
    · have hlt' : ¬ (j : Int) < (ps.length : Int) := by omega
      have hK1 := hK0.thenN hK
      have hx := hx.kept hK (fun h => h)
      have hy := hy.kept hK (fun h => h)
      clear HA1 HB1 hK0
      go_wp2
      go_loopw [6] (fun t wr' => ∃ j : Nat, j ≤ ks.length ∧ t = .int .i64 j ∧ Kp none' wr wr') (fun t _ => ks.length - (intOf t).toNat)
      case atStart => exact ⟨0, Nat.zero_le _, rfl, Kp.refl _ _⟩
      case round =>
        clear x1 y1 hlt hlt' hj
        obtain ⟨j, hj, rfl, hK⟩ := hrel
        have x1 := (hx.kept hK (fun h => h)).c2
        have y1 := (hy.kept hK (fun h => h)).c2
        by_cases hlt : j < ks.length
        · obtain ⟨b, o, rfl, _, p1⟩ := HA2.out j hlt
          obtain ⟨b', o', rfl, _, q1⟩ := HB2.out j hlt
          have p1 := (hK1.thenN hK).cell p1 (fun h => h)
          have q1 := (hK1.thenN hK).cell q1 (fun h => h)
          have hlt' : (j : Int) < (ks.length : Int) := by omega
          generalize ks[j] = z at *
          go_upto_region 11 with fail
          go_quiet (fail)
          go_wp2
          go_roundw
          case rel => exact ⟨j + 1, by omega, by go_num, hK.thenN (Kp.drewN _ _ _)⟩
          case measure => simp [intOf]; omega
        · have hlt' : ¬ (j : Int) < (ks.length : Int) := by omega
          have hK2 := hK1.thenN hK
          have hx := hx.kept hK (fun h => h)
          have hy := hy.kept hK (fun h => h)
          clear HA2 HB2 hK1
          go_wp2
          go_loopw [7] (fun t wr' => ∃ j : Nat, j ≤ kd.length ∧ t = .int .i64 j ∧ Kp none' wr wr') (fun t _ => kd.length - (intOf t).toNat)
          case atStart => exact ⟨0, Nat.zero_le _, rfl, Kp.refl _ _⟩
          case round =>
            clear x1 y1 hlt hlt' hj
            obtain ⟨j, hj, rfl, hK⟩ := hrel
            have x1 := (hx.kept hK (fun h => h)).c3
            have y1 := (hy.kept hK (fun h => h)).c3
            by_cases hlt : j < kd.length
            · obtain ⟨b, o, rfl, _, p1⟩ := HA3.out j hlt
              obtain ⟨b', o', rfl, _, q1⟩ := HB3.out j hlt
              have p1 := (hK2.thenN hK).cell p1 (fun h => h)
              have q1 := (hK2.thenN hK).cell q1 (fun h => h)
              have hlt' : (j : Int) < (kd.length : Int) := by omega
              generalize kd[j] = z at *
              go_upto_region 16 with fail
              go_quiet (fail)
              go_wp2
              go_roundw
              case rel => exact ⟨j + 1, by omega, by go_num, hK.thenN (Kp.drewN _ _ _)⟩
              case measure => simp [intOf]; omega
            · have hlt' : ¬ (j : Int) < (kd.length : Int) := by omega
              go_wp2
              go_ret
              exact ⟨rfl, hK2.thenN hK⟩

end Go.Proofs.YtponhibiomcidaaDoor
