/- Contracts, over the turned program: whether a message may be, its key and its bytes. Conditions: those that each theorem states. -/
import Derived.Test.YtamgnpmkmlhadaaODefs
namespace Go.Proofs.Ytamgnpmkmlhadaa
open Go Go.RowKit
set_option linter.unusedVariables false

theorem fits_m2 (o : Int) (h : ir o) (w : World) :
    Calls Try.prog 42 #[.int .u64 (IntKind.u64.wrap o), .int .i64 2] w fun y w' => y = .returned (.bool (decide (0 ≤ o ∧ o ≤ 65535))) ∧ w' = w := by
  rw [n2u_wr9]
  have h1 := fits_any (n2u o) 2 w (n2u_lt9 o)
  have e : fitsB (n2u o) 2 = decide (0 ≤ o ∧ o ≤ 65535) := by
    unfold fitsB
    rw [show wid 2 = 2 by decide]
    unfold n2u
    rw [decide_eq_decide]
    unfold ir at h
    show _ < 65536 ↔ _
    omega
  rw [e] at h1
  exact h1
theorem fits_m1 (o : Int) (h : ir o) (w : World) :
    Calls Try.prog 42 #[.int .u64 (IntKind.u64.wrap o), .int .i64 1] w fun y w' => y = .returned (.bool (decide (0 ≤ o ∧ o ≤ 255))) ∧ w' = w := by
  rw [n2u_wr9]
  have h1 := fits_any (n2u o) 1 w (n2u_lt9 o)
  have e : fitsB (n2u o) 1 = decide (0 ≤ o ∧ o ≤ 255) := by
    unfold fitsB
    rw [show wid 1 = 1 by decide]
    unfold n2u
    rw [decide_eq_decide]
    unfold ir at h
    show _ < 256 ↔ _
    omega
  rw [e] at h1
  exact h1
set_option maxRecDepth 100000 in
set_option maxHeartbeats 1000000 in
theorem omay_any (m : Ms) (w : World) (hm : m.wf) :
    Calls Try.prog 28 #[m.val] w fun e w' => e = .returned (.bool (nOk m)) ∧ w.grownBy w' none := by
  have hb := Mb.new w m
  have hg0 := World.grownBy_alloc w (.cells #[.int .i64 m.q, .int .i64 m.f, .int .i64 m.t, .int .i64 m.v.k, .int .i64 m.v.n, .string m.v.s] 26) none
  obtain ⟨c0, c1, c2, c3, c4, c5⟩ := hb.cs
  have hf := fun W => fits_m2 m.f hm.2.1 W
  have ht := fun W => fits_m1 m.t hm.2.2.1 W
  obtain ⟨R, HR⟩ : ∃ R, Hid (nOk m = R) := ⟨_, rfl⟩
  rw [HR.out]
  unfold Ms.val
  by_cases h1 : 1 ≤ m.q
  · by_cases h2 : m.q ≤ 2147483647
    · obtain ⟨F, HF⟩ : ∃ F, Hid (decide (0 ≤ m.f ∧ m.f ≤ 65535) = F) := ⟨_, rfl⟩
      obtain ⟨T, HT⟩ : ∃ T, Hid (decide (0 ≤ m.t ∧ m.t ≤ 255) = T) := ⟨_, rfl⟩
      rw [HF.out] at hf
      rw [HT.out] at ht
      have HE : Hid (R = (F && T)) := by
        show _ = _
        rw [← HR.out, ← HF.out, ← HT.out]
        unfold nOk
        rw [decide_eq_true ⟨h1, h2⟩, Bool.true_and]
      have h1' : ¬ m.q < 1 := by omega
      have h2' : ¬ 2147483647 < m.q := by omega
      clear h1 h2
      cases F with
      | true =>
        have e := HE.out
        rw [Bool.true_and] at e
        subst e
        clear HE
        go_enter Try.func28, Try.ntmps28
        go_wp2_with (first
          | (go_at_call 42; refine (hf _).mono ?_; clear hf; rintro e w1 ⟨rfl, rfl⟩)
          | (go_at_call 42; refine (ht _).mono ?_; clear ht; rintro e w1 ⟨rfl, rfl⟩))
        go_ret
        exact ⟨rfl, hg0⟩
      | false =>
        have e := HE.out
        rw [Bool.false_and] at e
        subst e
        clear HE
        go_enter Try.func28, Try.ntmps28
        go_wp2_with (go_at_call 42; refine (hf _).mono ?_; clear hf; rintro e w1 ⟨rfl, rfl⟩)
        go_ret
        exact ⟨rfl, hg0⟩
    · have e : R = false := by
        rw [← HR.out]
        unfold nOk
        rw [decide_eq_false (by omega), Bool.false_and]
      subst e
      have h1' : ¬ m.q < 1 := by omega
      have h2' : 2147483647 < m.q := by omega
      clear h1 h2
      go_enter Try.func28, Try.ntmps28
      go_wp2
      go_ret
      exact ⟨rfl, hg0⟩
  · have e : R = false := by
      rw [← HR.out]
      unfold nOk
      rw [decide_eq_false (by omega), Bool.false_and]
    subst e
    have h1' : m.q < 1 := by omega
    clear h1
    go_enter Try.func28, Try.ntmps28
    go_wp2
    go_ret
    exact ⟨rfl, hg0⟩
theorem mE_no {m : Ms} (h : okM m = false) : mE m = 4 := (m_no h).2.2
theorem wid4o : wid 4 = 4 := by decide
theorem wid2o : wid 2 = 2 := by decide
theorem wid1o : wid 1 = 1 := by decide
theorem u_nat (o : Int) (h : 0 ≤ o ∧ o ≤ 2147483647) : IntKind.u64.wrap o = ((o.toNat : Nat) : Int) ∧ ((o.toNat : Nat) : Int) < 18446744073709551616 := nat_wr9 o 2147483647 h (by decide)
set_option maxRecDepth 100000 in
set_option maxHeartbeats 2000000 in
theorem owrite_any (m : Ms) (w : World) (hm : m.wf) :
    Calls Try.prog 9 #[m.val] w fun e w' => e = .returned (.tuple #[.string (mK m), .string (mR m), .int .i64 (mE m)]) ∧ w.grownBy w' none := by
  have hb := Mb.new w m
  have hg0 := World.grownBy_alloc w (.cells #[.int .i64 m.q, .int .i64 m.f, .int .i64 m.t, .int .i64 m.v.k, .int .i64 m.v.n, .string m.v.s] 26) none
  have Hb := hide hb
  obtain ⟨c0, c1, c2, c3, c4, c5⟩ := hb.cs
  have Hv := hide (fun W => evalue_any m.v W hm.2.2.2)
  have Hn := hide (fun W => omay_any m W hm)
  clear hb
  cases hk : okC m.v with
  | false =>
    have hno : okM m = false := by unfold okM; rw [hk]; rfl
    obtain ⟨e1, e2, e3⟩ := m_no hno
    rw [e1, e2, e3]
    have ev : vE m.v = 6 := by unfold vE; rw [hk]; rfl
    rw [ev] at Hv
    unfold V.val at Hv
    unfold Ms.val
    clear e1 e2 e3 ev hno
    go_enter Try.func9, Try.ntmps9
    go_wp2_with (go_at_call 27; refine (Hv.out _).mono ?_; clear Hv; rintro e w1 ⟨rfl, hg1⟩)
    go_ret3
    exact ⟨rfl, grown_up hg0 hg1⟩
  | true =>
    have ev : vE m.v = 0 := by unfold vE; rw [hk]; rfl
    have eb : vB m.v = mkB (encC m.v) := by unfold vB; rw [hk]; rfl
    rw [ev, eb] at Hv
    have He := hide (encC_len m.v hk)
    cases hn : nOk m with
    | false =>
      have hno : okM m = false := by unfold okM; rw [hn, Bool.and_false]
      obtain ⟨e1, e2, e3⟩ := m_no hno
      rw [e1, e2, e3]
      rw [hn] at Hn
      unfold V.val at Hv
      unfold Ms.val at Hn ⊢
      clear e1 e2 e3 hno ev eb
      go_enter Try.func9, Try.ntmps9
      go_wp2_with (first
        | (go_at_call 27; refine (Hv.out _).mono ?_; clear Hv; rintro e w1 ⟨rfl, hg1⟩; obtain ⟨d0, d1, d2, d3, d4, d5⟩ := (Hb.out.kept hg1 (by simp)).cs)
        | (go_at_call 28; refine (Hn.out _).mono ?_; clear Hn; rintro e w2 ⟨rfl, hg2⟩))
      go_ret3
      exact ⟨rfl, grown_up (grown_up hg0 hg1) hg2⟩
    | true =>
      have hyes : okM m = true := by unfold okM; rw [hn, hk]; rfl
      obtain ⟨e1, e2, e3⟩ := m_ok hyes
      obtain ⟨_, p1, p2, p3⟩ := okM_parts hyes
      rw [e1, e2, e3]
      rw [hn] at Hn
      obtain ⟨u1, v1⟩ := u_nat m.q (by omega)
      obtain ⟨u2, v2⟩ := u_nat m.f (by omega)
      obtain ⟨u3, v3⟩ := u_nat m.t (by omega)
      have HA : Hid (∀ W, Calls Try.prog 29 #[.slice none 0 0, .int .u64 (IntKind.u64.wrap m.q), .int .i64 4] W fun e w' => ∃ v', e = .returned v' ∧ Own 5 w' W.heap.size v' (be m.q.toNat 4) ∧ Fr W (.slice none 0 0) w' v') := by
        intro W
        rw [u1]
        have := num_any (.slice none 0 0) [] m.q.toNat 4 W.heap.size W v1 (Own.nil _ _ _) (Nat.le_refl _) (by simp)
        rw [wid4o, List.nil_append] at this
        exact this
      have HB : Hid (∀ W, Calls Try.prog 29 #[.slice none 0 0, .int .u64 (IntKind.u64.wrap m.f), .int .i64 2] W fun e w' => ∃ v', e = .returned v' ∧ Own 5 w' W.heap.size v' (be m.f.toNat 2) ∧ Fr W (.slice none 0 0) w' v') := by
        intro W
        rw [u2]
        have := num_any (.slice none 0 0) [] m.f.toNat 2 W.heap.size W v2 (Own.nil _ _ _) (Nat.le_refl _) (by simp)
        rw [wid2o, List.nil_append] at this
        exact this
      have HC : Hid (∀ W v B, Own 5 W B v (be m.f.toNat 2) → B ≤ W.heap.size → Calls Try.prog 29 #[v, .int .u64 (IntKind.u64.wrap m.t), .int .i64 1] W fun e w' => ∃ v', e = .returned v' ∧ Own 5 w' B v' (be m.f.toNat 2 ++ be m.t.toNat 1) ∧ Fr W v w' v') := by
        intro W v B h hB
        rw [u3]
        have := num_any v _ m.t.toNat 1 B W v3 h hB (by rw [be_len]; omega)
        rw [wid1o] at this
        exact this
      have HS : Hid (mkB (be m.f.toNat 2 ++ be m.t.toNat 1) ++ mkB (encC m.v) = mkB (rstM m)) := by
        show _ = _
        rw [mkB_append]
        unfold rstM
        rw [List.append_assoc]
      have HK : Hid (mkB (be m.q.toNat 4) = mkB (keyM m)) := rfl
      have t1 : ¬ 9223372036854775807 < (mkB (be m.f.toNat 2 ++ be m.t.toNat 1)).size + (mkB (encC m.v)).size := by
        rw [mkB_size, mkB_size, List.length_append, be_len, be_len]
        have := He.out
        omega
      obtain ⟨E, HE⟩ : ∃ E, Hid (mkB (encC m.v) = E) := ⟨_, rfl⟩
      obtain ⟨X, HX⟩ : ∃ X, Hid (be m.f.toNat 2 ++ be m.t.toNat 1 = X) := ⟨_, rfl⟩
      obtain ⟨Y, HY⟩ : ∃ Y, Hid (be m.f.toNat 2 = Y) := ⟨_, rfl⟩
      obtain ⟨Z, HZ⟩ : ∃ Z, Hid (be m.q.toNat 4 = Z) := ⟨_, rfl⟩
      rw [HX.out, HE.out] at HS t1
      rw [HE.out] at Hv
      rw [HX.out] at HC
      rw [HY.out] at HB HC
      rw [HZ.out] at HA HK
      unfold V.val at Hv
      unfold Ms.val at Hn ⊢
      clear e1 e2 e3 hyes ev eb p1 p2 p3 u1 u2 u3 v1 v2 v3 hk hn HX HY HZ HE
      go_enter Try.func9, Try.ntmps9
      go_upto_region 4 with (first
        | (go_at_call 27; refine (Hv.out _).mono ?_; clear Hv; rintro e w1 ⟨rfl, hg1⟩; obtain ⟨d0, d1, d2, d3, d4, d5⟩ := (Hb.out.kept hg1 (by simp)).cs)
        | (go_at_call 28; refine (Hn.out _).mono ?_; clear Hn; rintro e w2 ⟨rfl, hg2⟩))
      have B2 := (Hb.out.kept hg1 (by simp)).kept hg2 (by simp)
      have G2 := grown_up (grown_up hg0 hg1) hg2
      obtain ⟨c0, c1, c2, _, _, _⟩ := B2.cs
      clear hg0 hg1 hg2 d0 d1 d2 d3 d4 d5
      go_upto_region 5 with (go_at_call 29; refine (HA.out _).mono ?_; clear HA; rintro e w3 ⟨k3, rfl, o3, f3⟩)
      have g3 : w2.grownBy w3 none := f3.1
      have B3 := B2.kept g3 (by simp)
      have G3 := grown_up G2 g3
      obtain ⟨c0, c1, c2, _, _, _⟩ := B3.cs
      clear B2 G2 f3
      go_upto_region 6 with (go_at_call 29; refine (HB.out _).mono ?_; clear HB; rintro e w4 ⟨k4, rfl, o4, f4⟩)
      have g4 : w3.grownBy w4 none := f4.1
      have B4 := B3.kept g4 (by simp)
      have G4 := grown_up G3 g4
      have hlt3 := hide (fun g h => (o3.lt g h).2)
      have o3' := o3.kept g4 (by cases k3.ownBlock <;> simp)
      obtain ⟨c0, c1, c2, _, _, _⟩ := B4.cs
      have hs3 := hide G3.size
      clear B3 G3 f4 o3
      have hc5 := HC.out w4 k4 w3.heap.size o4 g4.size
      clear HC
      go_upto_region 7 with (go_at_call 29; refine hc5.mono ?_; clear hc5; rintro e w5 ⟨k5, rfl, o5, f5⟩)
      have hne : k3.ownBlock = none ∨ k3.ownBlock ≠ k4.ownBlock := by
        rcases h : k3.ownBlock with _ | g
        · exact .inl rfl
        · right
          intro e
          have a1 := hlt3.out g h
          have a2 := (o4.lt g e.symm).1
          omega
      have o3'' := o3'.kept f5.1 hne
      have cv3 := fun n => run_convert_own (w5.drewN n) 58 9 5 Try.underlying58 Try.underlying5 Try.underlying9 (o3''.kept (grown_drewN w5 n none) (by cases k3.ownBlock <;> simp))
      have cv5 := fun n => run_convert_own (w5.drewN n) 58 9 5 Try.underlying58 Try.underlying5 Try.underlying9 (o5.kept (grown_drewN w5 n none) (by cases k5.ownBlock <;> simp))
      have t2 : ¬ 9223372036854775807 < (⟨X.toArray⟩ : ByteArray).size + E.size := t1
      have G5 : w.grownBy w5 none := grown_new G4 f5.1 (fun j e => Nat.le_trans hs3.out (o4.lt j e).1)
      clear t1 o3'' o5 o4 f5 hlt3 hne
      go_quiet (fail)
      go_wp2
      go_ret3
      rw [← HS.out, ← HK.out]
      exact ⟨rfl, grown_then_drewN G5 _⟩

end Go.Proofs.Ytamgnpmkmlhadaa
