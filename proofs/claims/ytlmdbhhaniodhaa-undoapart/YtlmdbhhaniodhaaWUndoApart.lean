/- The walk of the law UndoApart. Conditions: those that the theorem states. -/
import Derived.Test.YtlmdbhhaniodhaaULives
import Derived.Test.YtlmdbhhaniodhaaRefRead
namespace Go.Proofs.Ytlmdbhhaniodhaa.undoApart
open Go.RowKit
set_option linter.unusedVariables false

theorem mod_nat (x : Int) (m : Nat) (hm : 0 < m) (hm2 : m ≤ 1000) : ∃ k : Nat, wrap64 ((IntKind.u64.wrap x).tmod (m : Int)) = (k : Int) ∧ k < m := by
  have e : IntKind.u64.wrap x = x % 18446744073709551616 := by rfl
  have h0 : (0 : Int) ≤ x % 18446744073709551616 := by omega
  have h1 : (x % 18446744073709551616) % (m : Int) < m := Int.emod_lt_of_pos _ (by omega)
  have h2 : 0 ≤ (x % 18446744073709551616) % (m : Int) := Int.emod_nonneg _ (by omega)
  refine ⟨((x % 18446744073709551616) % (m : Int)).toNat, ?_, by omega⟩
  rw [e, Int.tmod_eq_emod_of_nonneg h0]
  unfold wrap64
  omega
theorem image_in (k j : Nat) (w : World) (hk : k < 31) (hj : j < 4) : Calls Try.prog 19 #[.int .i64 k, .int .i64 j] w fun e w' => e = .returned (.int .i64 (2 + 4 * (k : Int) + j)) ∧ w' = w := by
  have h := image_any k j w
  rw [show wrap64 (2 + 4 * (k : Int) + j) = 2 + 4 * (k : Int) + j by unfold wrap64; omega] at h
  exact h
theorem place_in (k j : Nat) (w : World) (hk : k < 1000) (hj : j < 4) : Calls Try.prog 20 #[.int .i64 k, .int .i64 j] w fun e w' => e = .returned (.int .i64 (126 + 4 * (k : Int) + j)) ∧ w' = w := by
  have h := place_any k j w
  rw [show wrap64 (126 + 4 * (k : Int) + j) = 126 + 4 * (k : Int) + j by unfold wrap64; omega] at h
  exact h
theorem need_in (k : Int) (w : World) (h0 : 0 ≤ k) (hk : k ≤ 1000) : Calls Try.prog 21 #[.int .i64 k] w fun e w' => e = .returned (.int .i64 (126 + 4 * k)) ∧ w' = w := by
  have h := need_any k w
  rw [show wrap64 (126 + 4 * k) = 126 + 4 * k by unfold wrap64; omega] at h
  exact h
set_option maxRecDepth 100000 in
set_option maxHeartbeats 800000 in
theorem walk (x0 y0 x1 y1 n : Int) (w : World) : Calls Try.prog 6 #[.agg #[.int .i64 x0, .int .i64 y0], .agg #[.int .i64 x1, .int .i64 y1], .int .i64 n] w fun e w' => e = .returned (.bool true) ∧ w.grownBy w' none := by
  obtain ⟨m, hm, hm1⟩ := mod_nat n 1000 (by omega) (by omega)
  obtain ⟨k, hk, hk1⟩ := mod_nat x0 31 (by omega) (by omega)
  obtain ⟨j, hj, hj1⟩ := mod_nat y0 4 (by omega) (by omega)
  obtain ⟨N, HN⟩ : ∃ N, Hid (m + 1 = N) := ⟨_, rfl⟩
  have hN0 : 0 < N := by have := HN.out; omega
  have hN1 : N ≤ 1000 := by have := HN.out; omega
  have HM : Hid ((m : Int) + 1 = (N : Int)) := by
    show _ = _
    have := HN.out
    omega
  obtain ⟨p, hp, hp1⟩ := mod_nat x1 N hN0 hN1
  obtain ⟨i, hi, hi1⟩ := mod_nat y1 4 (by omega) (by omega)
  obtain ⟨q, hq, hq1⟩ := mod_nat x0 N hN0 hN1
  rw [show ((1000 : Nat) : Int) = 1000 from rfl] at hm
  rw [show ((31 : Nat) : Int) = 31 from rfl] at hk
  rw [show ((4 : Nat) : Int) = 4 from rfl] at hj hi
  have hka := (Kp.alloc none' w (.cells #[.int .i64 x0, .int .i64 y0] 37)).then (Kp.alloc none' _ (.cells #[.int .i64 x1, .int .i64 y1] 37))
  obtain ⟨wb, Hb⟩ : ∃ wb, Hid ((w.alloc (.cells #[.int .i64 x0, .int .i64 y0] 37)).alloc (.cells #[.int .i64 x1, .int .i64 y1] 37) = wb) := ⟨_, rfl⟩
  have c0 : wb.cell? ⟨w.heap.size, 0, none⟩ = some (.int .i64 x0) := by
    rw [← Hb.out]
    exact (Kp.alloc none' _ _).cell (by rw [cell_of_row _ _ _ _ _ _ (heap_alloc_last w _)]; rfl) (fun h => h)
  have c1 : wb.cell? ⟨w.heap.size, 1, none⟩ = some (.int .i64 y0) := by
    rw [← Hb.out]
    exact (Kp.alloc none' _ _).cell (by rw [cell_of_row _ _ _ _ _ _ (heap_alloc_last w _)]; rfl) (fun h => h)
  have e2 : (w.alloc (.cells #[.int .i64 x0, .int .i64 y0] 37)).heap.size = w.heap.size + 1 := by simp
  have c2 : wb.cell? ⟨w.heap.size + 1, 0, none⟩ = some (.int .i64 x1) := by
    rw [← Hb.out, ← e2, cell_of_row _ _ _ _ _ _ (heap_alloc_last _ _)]; rfl
  have c3 : wb.cell? ⟨w.heap.size + 1, 1, none⟩ = some (.int .i64 y1) := by
    rw [← Hb.out, ← e2, cell_of_row _ _ _ _ _ _ (heap_alloc_last _ _)]; rfl
  rw [Hb.out] at hka
  have Hp := hide hp
  have Hq := hide hq
  clear hp hq
  go_enter Try.func6, Try.ntmps6
  go_upto_region 1 with fail
  rw [Hb.out]
  generalize w.heap.size + 1 = g1 at *
  generalize w.heap.size = g0 at *
  clear e2
  go_upto_region 3 with (go_at_call 8; refine (ulives_any _).mono ?_; rintro e w1 ⟨rfl, hk1⟩)
  have d0 := hk1.cell c0 (fun h => h)
  have d1 := hk1.cell c1 (fun h => h)
  have d2 := hk1.cell c2 (fun h => h)
  have d3 := hk1.cell c3 (fun h => h)
  have HK : Hid (w.grownBy w1 none) := (hka.then hk1).grown
  clear c0 c1 c2 c3 hka hk1
  have hNi : (N : Int) ≤ 1000 := by omega
  have hNp : 0 < (N : Int) := by omega
  have hNz : ((N : Int) == 0) = false := by simp; omega
  go_upto_region 4 with fail
  rw [HM.out]
  clear hm
  go_quiet (fail)
  go_upto_region 5 with fail
  have hp := Hp.out
  go_quiet (fail)
  clear hp
  rw [hk, hj, Hp.out, hi]
  go_upto_region 7 with (first
    | (go_at_call 19; refine (image_in k j _ hk1 hj1).mono ?_; rintro e w2 ⟨rfl, rfl⟩)
    | (go_at_call 20; refine (place_in p i _ (by omega) hi1).mono ?_; rintro e w2 ⟨rfl, rfl⟩)
    | fail)
  go_quiet (fail)
  go_upto_region 8 with fail
  rw [Hq.out]
  try rw [hj]
  go_upto_region 9 with (first
    | (go_at_call 20; refine (place_in q j _ (by omega) hj1).mono ?_; rintro e w2 ⟨rfl, rfl⟩)
    | fail)
  have k0 : (k : Int) < 31 := by omega
  have j0 : (j : Int) < 4 := by omega
  have i0 : (i : Int) < 4 := by omega
  have p0 : (p : Int) < N := by omega
  have q0 : (q : Int) < N := by omega
  have t1 : (2 : Int) ≤ 2 + 4 * (k : Int) + j := by omega
  have t2 : 2 + 4 * (k : Int) + j < 126 := by omega
  have t3 : (126 : Int) ≤ 126 + 4 * (p : Int) + i := by omega
  have t4 : 126 + 4 * (p : Int) + i < 126 + 4 * (N : Int) := by omega
  clear hk hj hi hk1 hj1 hi1 hp1 hq1 d0 d1 d2 d3
  have fin : ∀ W : World, w1.grownBy W none → w.grownBy W none := fun W hW => grown_trans HK.out hW (.inl rfl)
  have Hfin := hide fin
  clear fin
  by_cases hpq : (p : Int) = q
  · by_cases hij : (i : Int) = j
    · have e1 : ((126 + 4 * (p : Int) + i) == 126 + 4 * (q : Int) + j) = true := by simp; omega
      have e2 : ((p : Int) == (q : Int)) = true := by simpa using hpq
      have e3 : ((i : Int) == (j : Int)) = true := by simpa using hij
      clear hpq hij
      go_wp2_with (first
        | (go_at_call 20; refine (place00 _).mono ?_; rintro e w2 ⟨rfl, rfl⟩)
        | (go_at_call 21; refine (need_in N _ (by omega) hNi).mono ?_; rintro e w2 ⟨rfl, rfl⟩)
        | fail)
      go_ret
      exact ⟨rfl, Hfin.out _ (grown_drewN _ _ _)⟩
    · have e1 : ((126 + 4 * (p : Int) + i) == 126 + 4 * (q : Int) + j) = false := by simp; omega
      have e2 : ((p : Int) == (q : Int)) = true := by simpa using hpq
      have e3 : ((i : Int) == (j : Int)) = false := by simpa using hij
      clear hpq hij
      go_wp2_with (first
        | (go_at_call 20; refine (place00 _).mono ?_; rintro e w2 ⟨rfl, rfl⟩)
        | (go_at_call 21; refine (need_in N _ (by omega) hNi).mono ?_; rintro e w2 ⟨rfl, rfl⟩)
        | fail)
      go_ret
      exact ⟨rfl, Hfin.out _ (grown_drewN _ _ _)⟩
  · have e1 : ((126 + 4 * (p : Int) + i) == 126 + 4 * (q : Int) + j) = false := by simp; omega
    have e2 : ((p : Int) == (q : Int)) = false := by simpa using hpq
    clear hpq
    go_wp2_with (first
      | (go_at_call 20; refine (place00 _).mono ?_; rintro e w2 ⟨rfl, rfl⟩)
      | (go_at_call 21; refine (need_in N _ (by omega) hNi).mono ?_; rintro e w2 ⟨rfl, rfl⟩)
      | fail)
    go_ret
    exact ⟨rfl, Hfin.out _ (grown_drewN _ _ _)⟩

end Go.Proofs.Ytlmdbhhaniodhaa.undoApart
