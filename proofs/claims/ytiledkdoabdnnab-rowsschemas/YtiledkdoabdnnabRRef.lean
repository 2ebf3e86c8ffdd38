/- Contracts, over the turned program: the reference's Is, Right, Fits, Key and Write of layer 3 answer as the plain words say. Conditions: those that each theorem states. -/
import Derived.Test.YtiledkdoabdnnabRRow
import Derived.Test.YtiledkdoabdnnabKRef
namespace Go.Proofs.Ytiledkdoabdnnab
open Go.RowKit
set_option linter.unusedVariables false

theorem rightS_false {ks : List Int} {u x : Int} (h : ¬ (1 ≤ (ks.length : Int) ∧ (ks.length : Int) ≤ 4 ∧ 0 ≤ u ∧ u < ks.length ∧ 0 ≤ x ∧ x < ks.length)) : rightS ks u x = false := by
  rw [← Bool.not_eq_true]
  intro h2
  apply h
  unfold rightS rightK rightX rightC at h2
  simp only [Bool.and_eq_true, decide_eq_true_eq] at h2
  omega
theorem rightS_eq {ks : List Int} {u x : Int} (h1 : 1 ≤ (ks.length : Int)) (h2 : (ks.length : Int) ≤ 4) (h3 : 0 ≤ u) (h4 : u < ks.length) (h5 : 0 ≤ x) (h6 : x < ks.length) : rightS ks u x = (ks.all okK && (x == 0 || ks[x.toNat]? == some 1)) := by
  unfold rightS rightK rightX rightC
  rw [decide_eq_true (by omega : 1 ≤ ks.length ∧ ks.length ≤ 4), decide_eq_true ⟨h3, h4⟩, decide_eq_true ⟨h5, h6⟩]
  simp

set_option maxRecDepth 100000 in
set_option maxHeartbeats 800000 in
theorem rright_any (v : Value) (ks : List Int) (u x : Int) (w : World) (h : Kd w v ks) :
    Calls Try.prog 15 #[sval v u x] w fun e w' => e = .returned (.bool (rightS ks u x)) ∧ w.grownBy w' none := by
  have hga := World.grownBy_alloc w (.cells #[v, .int .i64 u, .int .i64 x] 24) none
  have hS := Sb.new w v u x
  obtain ⟨a, c, rfl, hc, hm, hL⟩ := h.keptN hga
  have hlm : ks.length ≤ maxLen := Nat.le_trans hc hm
  unfold maxLen at hlm
  have c0 := hS.c0
  have c1 := hS.c1
  have c2 := hS.c2
  unfold sval
  clear hc hm h
  by_cases h1 : (ks.length : Int) < 1
  · rw [rightS_false (by omega)]
    go_enter Try.func15, Try.ntmps15
    go_wp2
    go_ret
    exact ⟨rfl, hga⟩
  by_cases h2 : 4 < (ks.length : Int)
  · rw [rightS_false (by omega)]
    go_enter Try.func15, Try.ntmps15
    go_wp2
    go_ret
    exact ⟨rfl, hga⟩
  by_cases h3 : u < 0
  · rw [rightS_false (by omega)]
    go_enter Try.func15, Try.ntmps15
    go_wp2
    go_ret
    exact ⟨rfl, hga⟩
  by_cases h4 : (ks.length : Int) ≤ u
  · rw [rightS_false (by omega)]
    go_enter Try.func15, Try.ntmps15
    go_wp2
    go_ret
    exact ⟨rfl, hga⟩
  by_cases h5 : x < 0
  · rw [rightS_false (by omega)]
    go_enter Try.func15, Try.ntmps15
    go_wp2
    go_ret
    exact ⟨rfl, hga⟩
  by_cases h6 : (ks.length : Int) ≤ x
  · rw [rightS_false (by omega)]
    go_enter Try.func15, Try.ntmps15
    go_wp2
    go_ret
    exact ⟨rfl, hga⟩
  have He : Hid (rightS ks u x = (ks.all okK && (x == 0 || ks[x.toNat]? == some 1))) := rightS_eq (by omega) (by omega) (by omega) (by omega) (by omega) (by omega)
  obtain ⟨n, rfl⟩ : ∃ n : Nat, x = (n : Int) := ⟨x.toNat, by omega⟩
  have hn : n < ks.length := by omega
  obtain ⟨wa, Ha⟩ : ∃ wa, Hid (wa = w.alloc (.cells #[.slice a ks.length c, .int .i64 u, .int .i64 (n : Int)] 24)) := ⟨_, rfl⟩
  rw [← Ha.out] at hga hS hL c0 c1 c2
  go_enter Try.func15, Try.ntmps15
  go_wp2_with fail
  rw [← Ha.out]
  go_loop [4] (fun i => ∃ j : Nat, j ≤ ks.length ∧ i = .int .i64 j ∧ Hid ((ks.take j).all okK = true)) (fun i => ks.length - (intOf i).toNat)
  case atStart => exact ⟨0, Nat.zero_le _, rfl, by show _ = _; simp⟩
  case round =>
    obtain ⟨j, hj, rfl, Hok⟩ := hrel
    by_cases hlt : j < ks.length
    · obtain ⟨b, off, rfl, hb, k0⟩ := hL j hlt
      have hji : (j : Int) < (ks.length : Int) := by omega
      have Hall : Hid ((ks.take (j + 1)).all okK = okK ks[j]) := by
        show _ = _
        rw [List.take_succ_eq_append_getElem hlt, List.all_append, Hok.out]
        simp
      have Hbad : Hid (okK ks[j] = false → ks.all okK = false) := by
        intro h
        rw [List.all_eq_false]
        exact ⟨ks[j], List.getElem_mem hlt, by simp [h]⟩
      generalize ks[j] = k at *
      clear hL
      by_cases k1 : k = 1
      · subst k1
        go_wp2
        go_round
        case rel => exact ⟨j + 1, by omega, by go_num, by show _ = _; rw [Hall.out]; rfl⟩
        case measure => simp [intOf]; omega
      · by_cases k2 : k = 2
        · subst k2
          go_wp2
          go_round
          case rel => exact ⟨j + 1, by omega, by go_num, by show _ = _; rw [Hall.out]; rfl⟩
          case measure => simp [intOf]; omega
        · have e1 : (k != 1) = true := by simp [k1]
          have e2 : (k != 2) = true := by simp [k2]
          go_wp2
          go_ret
          rw [He.out, Hbad.out (by simp [okK, k1, k2])]
          exact ⟨rfl, hga⟩
    · have hji : ¬ (j : Int) < (ks.length : Int) := by omega
      have ej : ks.take j = ks := List.take_of_length_le (by omega)
      rw [ej] at Hok
      obtain ⟨b, off, rfl, hb, k0⟩ := hL n hn
      by_cases h0 : n = 0
      · subst h0
        have He0 : Hid (rightS ks u 0 = true) := by have h := He.out; rw [Hok.out] at h; exact h.trans rfl
        go_wp2
        go_ret
        rw [He0.out]
        exact ⟨rfl, hga⟩
      · have e0 : ((n : Int) == 0) = false := by simp [h0]
        have He2 : Hid (rightS ks u (n : Int) = (ks[n] == 1)) := by
          show _ = _
          rw [He.out, Hok.out, e0, Int.toNat_natCast, List.getElem?_eq_getElem hn]
          simp
        generalize ks[n] = k at *
        clear hL h0
        by_cases k1 : k = 1
        · subst k1
          go_wp2
          go_ret
          rw [He2.out]
          exact ⟨rfl, hga⟩
        · have e1 : (k == 1) = false := by simp [k1]
          go_wp2
          go_ret
          rw [He2.out, e1]
          exact ⟨rfl, hga⟩

end Go.Proofs.Ytiledkdoabdnnab
