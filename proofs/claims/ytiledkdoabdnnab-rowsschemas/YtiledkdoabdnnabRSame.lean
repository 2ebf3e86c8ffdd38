/- Contract, over the turned program: the reference's SameSchema says whether two schemas are the same. Conditions: those that the theorem states. -/
import Derived.Test.YtiledkdoabdnnabRUn
namespace Go.Proofs.Ytiledkdoabdnnab
open Go.RowKit
set_option linter.unusedVariables false

set_option maxRecDepth 100000 in
set_option maxHeartbeats 800000 in
theorem sameS_any (kv kv' : Value) (ks ks' : List Int) (u x u' x' : Int) (w : World) (hK : Kd w kv ks) (hK' : Kd w kv' ks') (h : ks = ks' ∧ u = u' ∧ x = x') :
    Calls Try.prog 9 #[sval kv u x, sval kv' u' x'] w fun e w' => e = .returned (.bool true) ∧ w.grownBy w' none := by
  obtain ⟨rfl, rfl, rfl⟩ := h
  have hga := World.grownBy_alloc w (.cells #[kv, .int .i64 u, .int .i64 x] 24) none
  have hgb := World.grownBy_alloc (w.alloc (.cells #[kv, .int .i64 u, .int .i64 x] 24)) (.cells #[kv', .int .i64 u, .int .i64 x] 24) none
  have hS := (Sb.new w kv u x).keptN hgb
  have hS' := Sb.new (w.alloc (.cells #[kv, .int .i64 u, .int .i64 x] 24)) kv' u x
  have hG := grown_up hga hgb
  have eg : (w.alloc (.cells #[kv, .int .i64 u, .int .i64 x] 24)).heap.size = w.heap.size + 1 := by simp
  rw [eg] at hS'
  obtain ⟨a, c, rfl, hc, hm, hL⟩ := hK.keptN hG
  obtain ⟨a', c', rfl, hc', hm', hL'⟩ := hK'.keptN hG
  have hlm : ks.length ≤ maxLen := Nat.le_trans hc hm
  unfold maxLen at hlm
  obtain ⟨wa, Ha⟩ : ∃ wa, Hid (wa = (w.alloc (.cells #[.slice a ks.length c, .int .i64 u, .int .i64 x] 24)).alloc (.cells #[.slice a' ks.length c', .int .i64 u, .int .i64 x] 24)) := ⟨_, rfl⟩
  rw [← Ha.out] at hS hS' hG hL hL'
  have HL : Hid (∀ i (h : i < ks.length), ∃ b off, a = some ⟨b, off, none⟩ ∧ b < wa.heap.size ∧ wa.cell? ⟨b, off + i, none⟩ = some (.int .i64 ks[i])) := hL
  have HL' : Hid (∀ i (h : i < ks.length), ∃ b off, a' = some ⟨b, off, none⟩ ∧ b < wa.heap.size ∧ wa.cell? ⟨b, off + i, none⟩ = some (.int .i64 ks[i])) := hL'
  have c0 := hS.c0
  have c1 := hS.c1
  have c2 := hS.c2
  have d0 := hS'.c0
  have d1 := hS'.c1
  have d2 := hS'.c2
  unfold sval
  clear hga hgb eg hc hm hc' hm' hL hL' hK hK'
  go_enter Try.func9, Try.ntmps9
  go_wp2_with fail
  rw [← Ha.out]
  clear c1 c2 d1 d2 c0 d0
  generalize hsg : w.heap.size = sg at *
  go_loopw [5] (fun i wr => ∃ j : Nat, j ≤ ks.length ∧ i = .int .i64 j ∧ wa.grownBy wr none) (fun i _ => ks.length - (intOf i).toNat)
  case atStart => exact ⟨0, Nat.zero_le _, rfl, World.grownBy.refl _ _⟩
  case round =>
    obtain ⟨j, hj, rfl, hg⟩ := hrel
    have c0 := (hS.keptN hg).c0
    have d0 := (hS'.keptN hg).c0
    by_cases hlt : j < ks.length
    · obtain ⟨b, off, rfl, hb, k0⟩ := HL.out j hlt
      obtain ⟨b', off', rfl, hb', k0'⟩ := HL'.out j hlt
      rw [← cell_same (hg.block b hb (by simp))] at k0
      rw [← cell_same (hg.block b' hb' (by simp))] at k0'
      have hji : (j : Int) < (ks.length : Int) := by omega
      generalize ks[j] = k at *
      go_upto_region 6 with fail
      go_quiet (fail)
      go_wp2_with fail
      go_roundw
      case rel => exact ⟨j + 1, by omega, by go_num, grown_up hg (grown_drewN _ _ _)⟩
      case measure => simp [intOf]; omega
    · have hji : ¬ (j : Int) < (ks.length : Int) := by omega
      go_wp2
      go_ret
      exact ⟨rfl, grown_up hG hg⟩

end Go.Proofs.Ytiledkdoabdnnab
