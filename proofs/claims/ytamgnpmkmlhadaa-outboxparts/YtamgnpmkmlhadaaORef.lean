/- Contracts, over the turned program: a message's bytes, and the message of bytes, as the document says. Conditions: those that each theorem states. -/
import Derived.Test.YtamgnpmkmlhadaaORd
import Derived.Deep.QuietTactic
namespace Go.Proofs.Ytamgnpmkmlhadaa
open Go Go.RowKit
set_option linter.unusedVariables false

theorem wp_region_classM {P : Program} {C : World → Prop} {id : Nat} {Q : Exit → Act → World → Prop} {a : Act} {w : World} {l : List Oper} (hm : P.follows .mixedOrders = true) (hB : Region.lexB .any l.toArray = true) (hC : C w.drew)
    (h : wpQuiet P l.toArray C (fun a' => ∀ w', C w' → Q .normal a' w') l a) : (Code.region id l.toArray true).wp P Q a w := wp_region_quiet (C := C) hm hB hC (by simpa using h)
set_option maxRecDepth 100000 in
set_option maxHeartbeats 2000000 in
theorem rright19_any (m : Ms) (w : World) :
    Calls Try.prog 30 #[m.val] w fun e w' => e = .returned (.bool (okM m)) ∧ w.grownBy w' none := by
  have hb := Mb.new w m
  have hg0 := World.grownBy_alloc w (.cells #[.int .i64 m.q, .int .i64 m.f, .int .i64 m.t, .int .i64 m.v.k, .int .i64 m.v.n, .string m.v.s] 26) none
  obtain ⟨c0, c1, c2, c3, c4, c5⟩ := hb.cs
  have Hi := hide (fun W => ris_any9 m.v W)
  unfold V.val at Hi
  obtain ⟨R, HR⟩ : ∃ R, Hid (okM m = R) := ⟨_, rfl⟩
  rw [HR.out]
  have HF : Hid (¬ (okC m.v = true ∧ (1 ≤ m.q ∧ m.q ≤ 2147483647) ∧ (0 ≤ m.f ∧ m.f ≤ 65535) ∧ (0 ≤ m.t ∧ m.t ≤ 255)) → R = false) := fun h => by
    rw [← HR.out]
    cases hk : okM m with
    | false => rfl
    | true => exact absurd (okM_parts hk) h
  unfold Ms.val
  clear hb
  by_cases h0 : 1 ≤ m.q
  rotate_left
  · have e := HF.out (fun h => h0 (by have := h.2; omega))
    subst e
    have t0 : ¬ 1 ≤ m.q := by omega
    clear h0
    go_enter Try.func30, Try.ntmps30
    go_wp2
    go_ret
    exact ⟨rfl, hg0⟩
  by_cases h1 : m.q ≤ 2147483647
  rotate_left
  · have e := HF.out (fun h => h1 (by have := h.2; omega))
    subst e
    have t1 : ¬ m.q < 2147483648 := by omega
    clear h1
    go_enter Try.func30, Try.ntmps30
    go_wp2
    go_ret
    exact ⟨rfl, hg0⟩
  have s1 : m.q < 2147483648 := by omega
  by_cases h2 : 0 ≤ m.f
  rotate_left
  · have e := HF.out (fun h => h2 (by have := h.2; omega))
    subst e
    have t2 : ¬ 0 ≤ m.f := by omega
    clear h2
    go_enter Try.func30, Try.ntmps30
    go_wp2
    go_ret
    exact ⟨rfl, hg0⟩
  by_cases h3 : m.f ≤ 65535
  rotate_left
  · have e := HF.out (fun h => h3 (by have := h.2; omega))
    subst e
    have t3 : ¬ m.f ≤ 65535 := by omega
    clear h3
    go_enter Try.func30, Try.ntmps30
    go_wp2
    go_ret
    exact ⟨rfl, hg0⟩
  by_cases h4 : 0 ≤ m.t
  rotate_left
  · have e := HF.out (fun h => h4 (by have := h.2; omega))
    subst e
    have t4 : ¬ 0 ≤ m.t := by omega
    clear h4
    go_enter Try.func30, Try.ntmps30
    go_wp2
    go_ret
    exact ⟨rfl, hg0⟩
  by_cases h5 : m.t ≤ 255
  rotate_left
  · have e := HF.out (fun h => h5 (by have := h.2; omega))
    subst e
    have t5 : ¬ m.t ≤ 255 := by omega
    clear h5
    go_enter Try.func30, Try.ntmps30
    go_wp2
    go_ret
    exact ⟨rfl, hg0⟩
  have HK : Hid (R = okC m.v) := by
    show _ = _
    rw [← HR.out]
    cases hk : okC m.v with
    | true => exact okM_of hk ⟨h0, h1⟩ ⟨h2, h3⟩ ⟨h4, h5⟩
    | false =>
      unfold okM
      rw [hk]
      rfl
  clear h1
  go_enter Try.func30, Try.ntmps30
  go_wp2_with (go_at_call 44; refine (Hi.out _).mono ?_; clear Hi; rintro e w1 ⟨rfl, hg1⟩)
  go_ret
  rw [HK.out]
  exact ⟨rfl, grown_up hg0 hg1⟩
theorem n2u_natM (o : Int) (h : 0 ≤ o ∧ o ≤ 2147483647) : n2u o = o.toNat := by unfold n2u; omega
set_option maxRecDepth 100000 in
set_option maxHeartbeats 4000000 in
theorem rwrite19_any (m : Ms) (w : World) (hm : m.wf) :
    Calls Try.prog 10 #[m.val] w fun e w' => e = .returned (.tuple #[.string (mK m), .string (mR m), .int .i64 (mE m)]) ∧ w.grownBy w' none := by
  have hb := Mb.new w m
  have hg0 := World.grownBy_alloc w (.cells #[.int .i64 m.q, .int .i64 m.f, .int .i64 m.t, .int .i64 m.v.k, .int .i64 m.v.n, .string m.v.s] 26) none
  have Hb := hide hb
  obtain ⟨c0, c1, c2, c3, c4, c5⟩ := hb.cs
  have Hm := hide (fun W => rright19_any m W)
  have Hv := hide (fun W => rvalue9_any m.v W hm.2.2.2)
  clear hb
  cases hk : okM m with
  | false =>
    obtain ⟨e1, e2, e3⟩ := m_no hk
    rw [e1, e2, e3]
    rw [hk] at Hm
    unfold Ms.val at Hm ⊢
    clear e1 e2 e3 hk
    go_enter Try.func10, Try.ntmps10
    go_wp2_with (go_at_call 30; refine (Hm.out _).mono ?_; clear Hm; rintro e w1 ⟨rfl, hg1⟩)
    go_ret3
    exact ⟨rfl, grown_up hg0 hg1⟩
  | true =>
    obtain ⟨e1, e2, e3⟩ := m_ok hk
    obtain ⟨p0, p1, p2, p3⟩ := okM_parts hk
    rw [e1, e2, e3]
    rw [hk] at Hm
    have ev : vE m.v = 0 := by unfold vE; rw [p0]; rfl
    have eb : vB m.v = mkB (encC m.v) := by unfold vB; rw [p0]; rfl
    rw [ev, eb] at Hv
    have hel := encC_len m.v p0
    have n1 := n2u_natM m.q (by omega)
    have n2 := n2u_natM m.f (by omega)
    have n3 := n2u_natM m.t (by omega)
    obtain ⟨SE, HSE⟩ : ∃ S, Hid (mkB (encC m.v) = S) := ⟨_, rfl⟩
    obtain ⟨SK, HSK⟩ : ∃ S, Hid (mkB (be (n2u m.q) 4) = S) := ⟨_, rfl⟩
    obtain ⟨SF, HSF⟩ : ∃ S, Hid (mkB (be (n2u m.f) 2) = S) := ⟨_, rfl⟩
    obtain ⟨ST, HST⟩ : ∃ S, Hid (mkB (be (n2u m.t) 1) = S) := ⟨_, rfl⟩
    have z2 : SF.size = 2 := by rw [← HSF.out, mkB_size, be_len]
    have z3 : ST.size = 1 := by rw [← HST.out, mkB_size, be_len]
    have z4 : SE.size ≤ 12 := by rw [← HSE.out, mkB_size]; exact hel
    have q1 : ¬ 9223372036854775807 < SF.size + ST.size := by omega
    have q2 : ¬ 9223372036854775807 < SF.size + ST.size + SE.size := by omega
    have HEE : Hid (SF ++ ST ++ SE = mkB (rstM m)) := by
      show _ = _
      rw [← HSF.out, ← HST.out, ← HSE.out, n2, n3, mkB_append, mkB_append]
      unfold rstM
      rw [List.append_assoc]
    have HKK : Hid (SK = mkB (keyM m)) := by
      show _ = _
      rw [← HSK.out, n1]
      rfl
    rw [HSE.out] at Hv
    unfold V.val at Hv
    unfold Ms.val at Hm ⊢
    clear e1 e2 e3 hk p0 p1 p2 p3 ev eb hel n1 n2 n3 z2 z3 z4 HSE
    go_enter Try.func10, Try.ntmps10
    go_upto_region 4 with (first
      | (go_at_call 30; refine (Hm.out _).mono ?_; clear Hm; rintro e w1 ⟨rfl, hg1⟩; obtain ⟨d0, d1, d2, d3, d4, d5⟩ := (Hb.out.kept hg1 (by simp)).cs)
      | (go_at_call 31; refine (Hv.out _).mono ?_; clear Hv; rintro e w4 ⟨rfl, hg4⟩))
    have G4 := grown_up (grown_up hg0 hg1) hg4
    have hb4 := (Hb.out.kept hg1 (by simp)).kept hg4 (by simp)
    have d0' : ∀ W : World, w4.grownBy W none → W.cell? ⟨w.heap.size, 0, none⟩ = some (.int .i64 m.q) := fun W h => (hb4.kept h (by simp)).cs.1
    have d1' : ∀ W : World, w4.grownBy W none → W.cell? ⟨w.heap.size, 1, none⟩ = some (.int .i64 m.f) := fun W h => (hb4.kept h (by simp)).cs.2.1
    have d2' : ∀ W : World, w4.grownBy W none → W.cell? ⟨w.heap.size, 2, none⟩ = some (.int .i64 m.t) := fun W h => (hb4.kept h (by simp)).cs.2.2.1
    have dr : w4.grownBy w4.drew none := ⟨rfl, rfl, rfl, Nat.le_refl _, fun _ _ _ => rfl⟩
    clear d0 d1 d2 d3 d4 d5 c0 c1 c2 c3 c4 c5 hg0 hg1 hg4 Hb
    generalize w.heap.size = g at *
    refine wp_region_classM (C := fun w' => w4.grownBy w' none) (by kernel_rfl) (by kernel_rfl) dr ?_
    refine wpQuiet_step (fun K hK => ?_)
    go_simp
    refine ⟨_, fun _ _ => rfl, hK _ ?_⟩
    clear hK K
    refine wpQuiet_step (fun K hK => ?_)
    go_simp
    refine ⟨.int .i64 m.q, fun W hW => ?_, hK _ ?_⟩
    · have g9 := d0' W hW
      go_simp
    clear hK K
    refine wpQuiet_step (fun K hK => ?_)
    go_simp
    refine ⟨_, fun _ _ => rfl, hK _ ?_⟩
    clear hK K
    refine wpQuiet_step (fun K hK => ?_)
    go_simp
    refine ⟨.string SK, fun W hW => ?_, hK _ ?_⟩
    · refine (rnum9 _ 4 4 wid4 W).mono ?_
      rintro e w5 ⟨rfl, hg5⟩
      rw [HSK.out]
      exact ⟨rfl, grown_up hW hg5⟩
    clear hK K
    refine wpQuiet_step (fun K hK => ?_)
    go_simp
    refine ⟨_, fun _ _ => rfl, hK _ ?_⟩
    clear hK K
    refine wpQuiet_step (fun K hK => ?_)
    go_simp
    refine ⟨.int .i64 m.f, fun W hW => ?_, hK _ ?_⟩
    · have g9 := d1' W hW
      go_simp
    clear hK K
    refine wpQuiet_step (fun K hK => ?_)
    go_simp
    refine ⟨_, fun _ _ => rfl, hK _ ?_⟩
    clear hK K
    refine wpQuiet_step (fun K hK => ?_)
    go_simp
    refine ⟨.string SF, fun W hW => ?_, hK _ ?_⟩
    · refine (rnum9 _ 2 2 wid2o W).mono ?_
      rintro e w5 ⟨rfl, hg5⟩
      rw [HSF.out]
      exact ⟨rfl, grown_up hW hg5⟩
    clear hK K
    refine wpQuiet_step (fun K hK => ?_)
    go_simp
    refine ⟨_, fun _ _ => rfl, hK _ ?_⟩
    clear hK K
    refine wpQuiet_step (fun K hK => ?_)
    go_simp
    refine ⟨.int .i64 m.t, fun W hW => ?_, hK _ ?_⟩
    · have g9 := d2' W hW
      go_simp
    clear hK K
    refine wpQuiet_step (fun K hK => ?_)
    go_simp
    refine ⟨_, fun _ _ => rfl, hK _ ?_⟩
    clear hK K
    refine wpQuiet_step (fun K hK => ?_)
    go_simp
    refine ⟨.string ST, fun W hW => ?_, hK _ ?_⟩
    · refine (rnum9 _ 1 1 wid1o W).mono ?_
      rintro e w5 ⟨rfl, hg5⟩
      rw [HST.out]
      exact ⟨rfl, grown_up hW hg5⟩
    clear hK K
    refine wpQuiet_step (fun K hK => ?_)
    go_simp
    refine ⟨_, fun _ _ => rfl, hK _ ?_⟩
    clear hK K
    refine wpQuiet_step (fun K hK => ?_)
    go_simp
    refine ⟨_, fun _ _ => rfl, hK _ ?_⟩
    clear hK K
    refine wpQuiet_step (fun K hK => ?_)
    go_simp
    refine ⟨_, fun _ _ => rfl, hK _ ?_⟩
    clear hK K
    refine wpQuiet_step (fun K hK => ?_)
    go_simp
    refine ⟨_, fun _ _ => rfl, hK _ ?_⟩
    clear hK K
    refine wpQuiet_step (fun K hK => ?_)
    go_simp
    refine ⟨_, fun _ _ => rfl, hK _ ?_⟩
    clear hK K
    refine wpQuiet_step (fun K hK => ?_)
    go_simp
    refine ⟨_, fun _ _ => rfl, hK _ ?_⟩
    clear hK K
    refine wpQuiet_nil ?_
    intro wE hE
    go_wp2
    go_ret3
    rw [HEE.out, HKK.out]
    exact ⟨rfl, grown_up G4 hE⟩

end Go.Proofs.Ytamgnpmkmlhadaa
