/- The walk of the law NodeBack. Conditions: those that the theorem states. -/
import Derived.Test.YtjmkfkmdafjgnaaDoorNLv
import Derived.Test.YtjmkfkmdafjgnaaDoorNOrd
import Derived.Test.YtjmkfkmdafjgnaaDoorNRefE
import Derived.Test.YtjmkfkmdafjgnaaDoorNRdE
namespace Go.Proofs.YtjmkfkmdafjgnaaDoor.nodeBack
open Go.RowKit
set_option linter.unusedVariables false

theorem back_len {n : Nd} (h : n.writeE = 0) : n.ps.length ≤ 255 ∧ n.ks.length ≤ 255 := by
  obtain ⟨hr, hs⟩ := writeE_right h
  cases hl : n.leaf with
  | true =>
    obtain ⟨h1, h2, h3, h4⟩ := right_leaf hr hl
    have hps := right_ps hr hl
    have := sum_ge n.ps (fun p hp => (hps p hp).1.1)
    unfold Nd.size at hs
    rw [hl, if_pos rfl] at hs
    exact ⟨by omega, by rw [h2]; simp⟩
  | false =>
    obtain ⟨h1, h2, h3, h4⟩ := right_inner hr hl
    have hks := ordN_mem h4
    have := sumK_ge n.ks (fun k hk => (hks k hk).1)
    unfold Nd.size at hs
    rw [hl] at hs
    simp only [Bool.false_eq_true, if_false] at hs
    exact ⟨by rw [h2]; simp, by omega⟩
theorem rd_len (s : ByteArray) : (rdO s).ps.length ≤ 255 ∧ (rdO s).ks.length ≤ 255 := by
  unfold rdO
  cases h : readN s with
  | none => simp
  | some m => exact back_len (readN_only h).1
theorem rd_back {n : Nd} (h : n.writeE = 0) : rdE n.write = 0 ∧ rdO n.write = n := by
  unfold rdE rdO
  rw [readN_write h]
  exact ⟨rfl, rfl⟩
theorem rd_only {s : ByteArray} (h : rdE s = 0) : (rdO s).writeE = 0 ∧ (rdO s).write = s := by
  unfold rdE at h
  unfold rdO
  cases h1 : readN s with
  | none => rw [h1] at h; simp at h
  | some m => exact readN_only h1
theorem rdE_or (s : ByteArray) : rdE s = 0 ∨ rdE s = 10 := by unfold rdE; split <;> simp
theorem write_len (n : Nd) : n.write.size ≤ maxLen := by
  unfold Nd.write
  split
  · rename_i h; rw [mkB_size, page_len h]; unfold maxLen; omega
  · rw [mkB_size]; simp

set_option maxRecDepth 100000 in
set_option maxHeartbeats 1500000 in
theorem walk (x : Value) (n : Nd) (s : ByteArray) (w : World) (hN : Nv w.heap.size w x n) (hs : s.size ≤ maxLen) (hp : n.ps.length ≤ 1099511627776) (hk : n.ks.length ≤ 1099511627776) : Calls Tryd.prog 4 #[x, .string s] w fun e w' => e = .returned (.bool true) ∧ w.grownBy w' none := by
  have hN' := hN
  obtain ⟨⟨pv, kv, dv, rfl, hP, hS, hD⟩, hwf⟩ := hN'
  obtain ⟨a1, c1, rfl, _⟩ := hP
  obtain ⟨a2, c2, rfl, _⟩ := hS
  obtain ⟨a3, c3, rfl, _⟩ := hD
  have hb := Nb.new w n.leaf (.slice a1 n.ps.length c1) (.slice a2 n.ks.length c2) (.slice a3 n.kd.length c3)
  have hK0 : Kp none' w (w.alloc (.cells #[.bool n.leaf, .slice a1 n.ps.length c1, .slice a2 n.ks.length c2, .slice a3 n.kd.length c3] 27)) := Kp.alloc _ _ _
  obtain ⟨T, HT⟩ : ∃ T, Hid (n.write = T) := ⟨n.write, hide rfl⟩
  obtain ⟨E, HE⟩ : ∃ E, Hid (n.writeE = E) := ⟨n.writeE, hide rfl⟩
  have HF : Hid (∀ W : World, Kp none' w W → Calls Tryd.prog 9 #[.agg #[.bool n.leaf, .slice a1 n.ps.length c1, .slice a2 n.ks.length c2, .slice a3 n.kd.length c3]] W fun e w' => e = .returned (.tuple #[.string T, .int .i64 E]) ∧ Kp none' W w') := by
    intro W hk'
    rw [← HT.out, ← HE.out]
    exact nwrite_any _ n _ W (hN.keptN hk') hk'.size hp hk
  obtain ⟨F, HFe⟩ : ∃ q, Hid (rdE T = q) := ⟨_, hide rfl⟩
  obtain ⟨m, Hm⟩ : ∃ q, Hid (rdO T = q) := ⟨_, hide rfl⟩
  obtain ⟨G, HGe⟩ : ∃ q, Hid (rdE s = q) := ⟨_, hide rfl⟩
  obtain ⟨k, Hk⟩ : ∃ q, Hid (rdO s = q) := ⟨_, hide rfl⟩
  obtain ⟨U, HU⟩ : ∃ q, Hid (k.write = q) := ⟨_, hide rfl⟩
  obtain ⟨H, HH⟩ : ∃ q, Hid (k.writeE = q) := ⟨_, hide rfl⟩
  have HR1 : Hid (∀ W : World, Calls Tryd.prog 6 #[.string T] W fun e w' => ∃ l b1 m1 o1 b2 m2 o2 b3 m3 o3, e = .returned (.tuple #[.agg #[.bool l, .slice b1 m1 o1, .slice b2 m2 o2, .slice b3 m3 o3], .int .i64 F]) ∧ Nv w'.heap.size w' (.agg #[.bool l, .slice b1 m1 o1, .slice b2 m2 o2, .slice b3 m3 o3]) m ∧ Kp none' W w') := by
    intro W
    refine (read9_any T W (by rw [← HT.out]; exact write_len n)).mono ?_
    rintro e w' ⟨y, rfl, h1, h2⟩
    rw [HFe.out, Hm.out] at *
    obtain ⟨b1, o1, b2, o2, b3, o3, rfl⟩ := nv_open h1
    exact ⟨_, _, _, _, _, _, _, _, _, _, rfl, h1, h2⟩
  have HR2 : Hid (∀ W : World, Calls Tryd.prog 6 #[.string s] W fun e w' => ∃ l b1 m1 o1 b2 m2 o2 b3 m3 o3, e = .returned (.tuple #[.agg #[.bool l, .slice b1 m1 o1, .slice b2 m2 o2, .slice b3 m3 o3], .int .i64 G]) ∧ Nv w'.heap.size w' (.agg #[.bool l, .slice b1 m1 o1, .slice b2 m2 o2, .slice b3 m3 o3]) k ∧ Kp none' W w') := by
    intro W
    refine (read9_any s W hs).mono ?_
    rintro e w' ⟨y, rfl, h1, h2⟩
    rw [HGe.out, Hk.out] at *
    obtain ⟨b1, o1, b2, o2, b3, o3, rfl⟩ := nv_open h1
    exact ⟨_, _, _, _, _, _, _, _, _, _, rfl, h1, h2⟩
  have HKL : Hid (k.ps.length ≤ 255 ∧ k.ks.length ≤ 255) := by rw [← Hk.out]; exact rd_len s
  have HW2 : Hid (∀ (y : Value) (B : Nat) (W : World), Nv B W y k → B ≤ W.heap.size → Calls Tryd.prog 9 #[y] W fun e w' => e = .returned (.tuple #[.string U, .int .i64 H]) ∧ Kp none' W w') := by
    intro y B W hy hB
    rw [← HU.out, ← HH.out]
    have := HKL.out
    exact nwrite_any _ k _ W hy hB (by omega) (by omega)
  have HB0 : E = 0 → Hid (F = 0 ∧ m = n) := by
    intro h0
    have h := rd_back (n := n) (by rw [HE.out]; exact h0)
    rw [HT.out, HFe.out, Hm.out] at h
    exact h
  have HB1 : G = 0 → Hid (H = 0 ∧ U = s) := by
    intro h0
    have h := rd_only (s := s) (by rw [HGe.out]; exact h0)
    rw [Hk.out, HU.out, HH.out] at h
    exact h
  replace HB0 := hide HB0
  replace HB1 := hide HB1
  have HN0 := hide hN
  clear hN hwf hp hk hs
  obtain ⟨lp, Hlp⟩ : ∃ l, Hid (n.ps.length = l) := ⟨_, rfl⟩
  obtain ⟨lk, Hlk⟩ : ∃ l, Hid (n.ks.length = l) := ⟨_, rfl⟩
  obtain ⟨ld, Hld⟩ : ∃ l, Hid (n.kd.length = l) := ⟨_, rfl⟩
  obtain ⟨lf, Hlf⟩ : ∃ l, Hid (n.leaf = l) := ⟨_, rfl⟩
  rw [Hlp.out, Hlk.out, Hld.out, Hlf.out] at hb hK0 HF HN0 ⊢
  go_enter Tryd.func4, Tryd.ntmps4
  go_upto_region 3 with (first
    | (go_at_call 5; refine (lives9_any _).mono ?_; rintro e w1 ⟨rfl, hk1⟩)
    | fail)
  have b1 := hb.kept hk1 (fun h => h)
  have d0 := b1.c0
  have d1 := b1.c1
  have d2 := b1.c2
  have d3 := b1.c3
  have S1 := hK0.thenN hk1
  go_upto_region 4 with (first
    | (go_at_call 9; refine (HF.out _ S1).mono ?_; rintro e w2 ⟨rfl, hk2⟩)
    | fail)
  have b2 := b1.kept hk2 (fun h => h)
  have S2 := S1.thenN hk2
  clear d0 d1 d2 d3
  go_upto_region 5 with (first
    | (go_at_call 6; refine (HR1.out _).mono ?_; rintro e w3 ⟨l3, p1, n1, q1, p2, n2, q2, p3, n3, q3, rfl, hV3, hk3⟩)
    | fail)
  have n5 := Nb.new w3 l3 (.slice p1 n1 q1) (.slice p2 n2 q2) (.slice p3 n3 q3)
  have hka : Kp none' w3 (w3.alloc (.cells #[.bool l3, .slice p1 n1 q1, .slice p2 n2 q2, .slice p3 n3 q3] 27)) := Kp.alloc _ _ _
  obtain ⟨g5, Hg5⟩ : ∃ q, Hid (w3.heap.size = q) := ⟨_, rfl⟩
  rw [Hg5.out] at n5 ⊢
  generalize w3.alloc (.cells #[.bool l3, .slice p1 n1 q1, .slice p2 n2 q2, .slice p3 n3 q3] 27) = w4 at *
  have b4 := (b2.kept hk3 (fun h => h)).kept hka (fun h => h)
  have S4 := (S2.thenN hk3).thenN hka
  have hV4 := hV3.keptN hka
  clear hb b1 b2 hk1 hk2 hk3 hka S1 S2 hK0
  have d0 := b4.c0
  have d1 := b4.c1
  have d2 := b4.c2
  have d3 := b4.c3
  have x0 := n5.c0
  have x1 := n5.c1
  have x2 := n5.c2
  have x3 := n5.c3
  by_cases hE : E = 0
  · subst hE
    have hF := HB0.out rfl
    obtain ⟨rfl, rfl⟩ := hF.out
    go_upto_region 7 with (first
      | (go_at_call 8; refine (rsame_any _ _ m _ _ _ hV4 (HN0.out.keptN S4)).mono ?_; rintro e w5 ⟨rfl, hk5⟩)
      | fail)
    have S5 := S4.thenN hk5
    clear d0 d1 d2 d3 x0 x1 x2 x3
    go_upto_region 8 with (first
      | (go_at_call 6; refine (HR2.out _).mono ?_; rintro e w6 ⟨l6, r1, n6, t1, r2, n7, t2, r3, n8, t3, rfl, hV6, hk6⟩)
      | fail)
    have n9 := Nb.new w6 l6 (.slice r1 n6 t1) (.slice r2 n7 t2) (.slice r3 n8 t3)
    have hkb : Kp none' w6 (w6.alloc (.cells #[.bool l6, .slice r1 n6 t1, .slice r2 n7 t2, .slice r3 n8 t3] 27)) := Kp.alloc _ _ _
    obtain ⟨g9, Hg9⟩ : ∃ q, Hid (w6.heap.size = q) := ⟨_, rfl⟩
    rw [Hg9.out] at n9 ⊢
    generalize w6.alloc (.cells #[.bool l6, .slice r1 n6 t1, .slice r2 n7 t2, .slice r3 n8 t3] 27) = w7 at *
    have S7 := (S5.thenN hk6).thenN hkb
    have hV7 := hV6.keptN hkb
    have z0 := n9.c0
    have z1 := n9.c1
    have z2 := n9.c2
    have z3 := n9.c3
    go_upto_region 9 with (first
      | (go_at_call 9; refine (HW2.out _ _ _ hV7 hkb.size).mono ?_; rintro e w8 ⟨rfl, hk8⟩)
      | fail)
    have S8 := S7.thenN hk8
    by_cases hG : G = 0
    · have hH := HB1.out hG
      obtain ⟨rfl, rfl⟩ := hH.out
      subst hG
      go_wp2
      go_ret
      exact ⟨by simp, S8.grown⟩
    · have hGb : (G != 0) = true := by simp [hG]
      go_wp2
      go_ret
      exact ⟨by simp, S8.grown⟩
  · have hEb : (E == 0) = false := by simp [hE]
    go_upto_region 7 with fail
    clear d0 d1 d2 d3 x0 x1 x2 x3
    go_upto_region 8 with (first
      | (go_at_call 6; refine (HR2.out _).mono ?_; rintro e w6 ⟨l6, r1, n6, t1, r2, n7, t2, r3, n8, t3, rfl, hV6, hk6⟩)
      | fail)
    have n9 := Nb.new w6 l6 (.slice r1 n6 t1) (.slice r2 n7 t2) (.slice r3 n8 t3)
    have hkb : Kp none' w6 (w6.alloc (.cells #[.bool l6, .slice r1 n6 t1, .slice r2 n7 t2, .slice r3 n8 t3] 27)) := Kp.alloc _ _ _
    obtain ⟨g9, Hg9⟩ : ∃ q, Hid (w6.heap.size = q) := ⟨_, rfl⟩
    rw [Hg9.out] at n9 ⊢
    generalize w6.alloc (.cells #[.bool l6, .slice r1 n6 t1, .slice r2 n7 t2, .slice r3 n8 t3] 27) = w7 at *
    have S7 := (S4.thenN hk6).thenN hkb
    have hV7 := hV6.keptN hkb
    have z0 := n9.c0
    have z1 := n9.c1
    have z2 := n9.c2
    have z3 := n9.c3
    go_upto_region 9 with (first
      | (go_at_call 9; refine (HW2.out _ _ _ hV7 hkb.size).mono ?_; rintro e w8 ⟨rfl, hk8⟩)
      | fail)
    have S8 := S7.thenN hk8
    by_cases hG : G = 0
    · have hH := HB1.out hG
      obtain ⟨rfl, rfl⟩ := hH.out
      subst hG
      go_wp2
      go_ret
      exact ⟨by simp, S8.grown⟩
    · have hGb : (G != 0) = true := by simp [hG]
      go_wp2
      go_ret
      exact ⟨by simp, S8.grown⟩

end Go.Proofs.YtjmkfkmdafjgnaaDoor.nodeBack
