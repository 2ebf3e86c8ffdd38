/- Contract, over the turned program: a record's bytes, as the document says. Conditions: those that the theorem states. -/
import Derived.Test.YthopmlgfklhagaaERi
import Derived.Deep.QuietTactic
namespace Go.Proofs.Ythopmlgfklhagaa
open Go Go.RowKit
set_option linter.unusedVariables false

theorem wp_region_class9 {P : Program} {C : World → Prop} {id : Nat} {Q : Exit → Act → World → Prop} {a : Act} {w : World} {l : List Oper} (hm : P.follows .mixedOrders = true) (hB : Region.lexB .any l.toArray = true) (hC : C w.drew)
    (h : wpQuiet P l.toArray C (fun a' => ∀ w', C w' → Q .normal a' w') l a) : (Code.region id l.toArray true).wp P Q a w := wp_region_quiet (C := C) hm hB hC (by simpa using h)

set_option maxRecDepth 100000 in
set_option maxHeartbeats 4000000 in
theorem rwrite17_any (x : Rc9) (w : World) (hx : x.wf) :
    Calls Try.prog 15 #[x.val] w fun e w' => e = .returned (.tuple #[.string (rB x), .int .i64 (rE9 x)]) ∧ w.grownBy w' none := by
  have hb := Rb.new 33 w x
  have hg0 := World.grownBy_alloc w (.cells #[.int .i64 x.e, .int .i64 x.v.k, .int .i64 x.v.n, .string x.v.s, .int .i64 x.sl, .int .i64 x.p, .int .i64 x.o, .int .i64 x.k] 33) none
  have Hm := hide (fun W => rright17_any x W)
  obtain ⟨c0, c1, c2, c3, c4, c5, c6, c7⟩ := hb.cs
  unfold rB rE9
  cases hk : okR x with
  | false =>
    rw [hk] at Hm
    rw [if_neg (by decide), if_neg (by decide)]
    unfold Rc9.val at Hm ⊢
    clear hk
    go_enter Try.func15, Try.ntmps15
    go_wp2_with (go_at_call 37; refine (Hm.out _).mono ?_; rintro e w1 ⟨rfl, hg1⟩)
    go_ret2
    exact ⟨rfl, grown_up hg0 hg1⟩
  | true =>
    rw [hk] at Hm
    rw [if_pos rfl, if_pos rfl]
    obtain ⟨o1, o2, o3, o4, o5, o6⟩ := okR_parts hk
    have b4 := of_decide_eq_true o4; have b5 := of_decide_eq_true o5; have b6 := of_decide_eq_true o6
    have He := hide (n2u_nat x.e (by omega))
    have Hsl := hide (n2u_nat x.sl (by omega))
    have Hp := hide (n2u_nat x.p (by omega))
    have Ho := hide (n2u_nat x.o (by omega))
    have Hk := hide (n2u_nat x.k (by omega))
    have Hol := hide (encO_len x.v o2)
    have HVv := hide (fun W => rvalue9_any x.v W hx.2.1)
    obtain ⟨E, HE⟩ : ∃ E, Hid (mkB (enc9 x) = E) := ⟨_, rfl⟩
    rw [HE.out]
    obtain ⟨S0, HS0⟩ : ∃ S, Hid (mkB (be (n2u x.e) 1) = S) := ⟨_, rfl⟩
    obtain ⟨S1, HS1⟩ : ∃ S, Hid (mkB (encO x.v) = S) := ⟨_, rfl⟩
    obtain ⟨S2, HS2⟩ : ∃ S, Hid (mkB (be (n2u x.sl) 4) = S) := ⟨_, rfl⟩
    obtain ⟨S3, HS3⟩ : ∃ S, Hid (mkB (be (n2u x.p) 1) = S) := ⟨_, rfl⟩
    obtain ⟨S4, HS4⟩ : ∃ S, Hid (mkB (be (n2u x.o) 1) = S) := ⟨_, rfl⟩
    obtain ⟨S5, HS5⟩ : ∃ S, Hid (mkB (be (n2u x.k) 1) = S) := ⟨_, rfl⟩
    have HEE : Hid (E = S0 ++ S1 ++ S2 ++ S3 ++ S4 ++ S5) := by
      show _ = _
      rw [← HE.out, ← HS0.out, ← HS1.out, ← HS2.out, ← HS3.out, ← HS4.out, ← HS5.out, He.out, Hsl.out, Hp.out, Ho.out, Hk.out, mkB_append, mkB_append, mkB_append, mkB_append, mkB_append]
      show mkB _ = mkB _
      congr 1
      unfold enc9
      simp only [List.append_assoc]
    have z0 : S0.size = 1 := by rw [← HS0.out, mkB_size, be_len]
    have z1 : S1.size ≤ 13 := by rw [← HS1.out, mkB_size]; exact Hol.out
    have z2 : S2.size = 4 := by rw [← HS2.out, mkB_size, be_len]
    have z3 : S3.size = 1 := by rw [← HS3.out, mkB_size, be_len]
    have z4 : S4.size = 1 := by rw [← HS4.out, mkB_size, be_len]
    have z5 : S5.size = 1 := by rw [← HS5.out, mkB_size, be_len]
    have HZ := hide (⟨z0, z1, z2, z3, z4, z5⟩ : S0.size = 1 ∧ S1.size ≤ 13 ∧ S2.size = 4 ∧ S3.size = 1 ∧ S4.size = 1 ∧ S5.size = 1)
    have Hvo := hide o2
    unfold Rc9.val at Hm ⊢
    unfold V.val at HVv
    clear hk o1 o2 o3 o4 o5 o6 b4 b5 b6 z0 z1 z2 z3 z4 z5
    go_enter Try.func15, Try.ntmps15
    go_wp2_with (go_at_call 37; refine (Hm.out _).mono ?_; rintro e w1 ⟨rfl, hg1⟩; have d0 := cell_g9 c0 hg1)
    refine (rnum9 x.e 1 1 wid1 w1).mono ?_
    rintro e w2 ⟨rfl, hg2⟩
    rw [HS0.out]
    have G2 := grown_up hg0 (grown_up hg1 hg2)
    have hb2 := (hb.kept hg1 (by simp)).kept hg2 (by simp)
    clear c0 c1 c2 c3 c4 c5 c6 c7 hb hg0
    obtain ⟨c0, c1, c2, c3, c4, c5, c6, c7⟩ := hb2.cs
    by_cases h0 : x.v.k = 0
    · have h0' : (x.v.k == 0) = true := by simp [h0]
      have HS1' : Hid (mkB (be 0 1) = S1) := by show _ = _; rw [← HS1.out]; unfold encO; rw [if_pos h0]
      have t1 : ¬ 9223372036854775807 < S0.size + S1.size := by have := HZ.out; omega
      clear h0
      go_upto_region 8 with (go_at_call 27; refine (rfnum_any 0 1 _ (by decide)).mono ?_; rintro e w4 ⟨rfl, hg4⟩; rw [wid1, show (⟨(be 0 1).toArray⟩ : ByteArray) = S1 from HS1'.out])
      have G4 := grown_up G2 hg4
      have hb4 := hb2.kept hg4 (by simp)
      clear c0 c1 c2 c3 c4 c5 c6 c7
      have d4 : ∀ W : World, w4.grownBy W none → W.cell? ⟨w.heap.size, 4, none⟩ = some (.int .i64 x.sl) := fun W h => (hb4.kept h (by simp)).cs.2.2.2.2.1
      have d5 : ∀ W : World, w4.grownBy W none → W.cell? ⟨w.heap.size, 5, none⟩ = some (.int .i64 x.p) := fun W h => (hb4.kept h (by simp)).cs.2.2.2.2.2.1
      have d6 : ∀ W : World, w4.grownBy W none → W.cell? ⟨w.heap.size, 6, none⟩ = some (.int .i64 x.o) := fun W h => (hb4.kept h (by simp)).cs.2.2.2.2.2.2.1
      have d7 : ∀ W : World, w4.grownBy W none → W.cell? ⟨w.heap.size, 7, none⟩ = some (.int .i64 x.k) := fun W h => (hb4.kept h (by simp)).cs.2.2.2.2.2.2.2
      have dr : w4.grownBy w4.drew none := ⟨rfl, rfl, rfl, Nat.le_refl _, fun _ _ _ => rfl⟩
      obtain ⟨A, HA⟩ : ∃ A, Hid (S0 ++ S1 = A) := ⟨_, rfl⟩
      rw [HA.out]
      have zA : A.size ≤ 14 := by rw [← HA.out]; rw [ByteArray.size_append]; have := HZ.out; omega
      have q2 : ¬ 9223372036854775807 < A.size + S2.size := by have := HZ.out; omega
      have q3 : ¬ 9223372036854775807 < A.size + S2.size + S3.size := by have := HZ.out; omega
      have q4 : ¬ 9223372036854775807 < A.size + S2.size + S3.size + S4.size := by have := HZ.out; omega
      have q5 : ¬ 9223372036854775807 < A.size + S2.size + S3.size + S4.size + S5.size := by have := HZ.out; omega
      generalize w.heap.size = g at *
      refine wp_region_class9 (C := fun w' => w4.grownBy w' none) (by kernel_rfl) (by kernel_rfl) dr ?_
      refine wpQuiet_step (fun K hK => ?_)
      go_simp
      refine ⟨_, fun _ _ => rfl, hK _ ?_⟩
      clear hK K
      refine wpQuiet_step (fun K hK => ?_)
      go_simp
      refine ⟨_, fun _ _ => rfl, hK _ ?_⟩
      clear hK K
      refine wpQuiet_step (fun K hK => ?_)
      go_simp
      refine ⟨.int .i64 x.sl, fun W hW => ?_, hK _ ?_⟩
      · have g9 := d4 W hW
        go_simp
      clear hK K
      refine wpQuiet_step (fun K hK => ?_)
      go_simp
      refine ⟨_, fun _ _ => rfl, hK _ ?_⟩
      clear hK K
      refine wpQuiet_step (fun K hK => ?_)
      go_simp
      refine ⟨.string S2, fun W hW => ?_, hK _ ?_⟩
      · refine (rnum9 _ 4 4 wid4 W).mono ?_
        rintro e w5 ⟨rfl, hg5⟩
        rw [HS2.out]
        exact ⟨rfl, grown_up hW hg5⟩
      clear hK K
      refine wpQuiet_step (fun K hK => ?_)
      go_simp
      refine ⟨_, fun _ _ => rfl, hK _ ?_⟩
      clear hK K
      refine wpQuiet_step (fun K hK => ?_)
      go_simp
      refine ⟨_, fun _ _ => rfl, hK _ ?_⟩
      clear hK K
      refine wpQuiet_step (fun K hK => ?_)
      go_simp
      refine ⟨.int .i64 x.p, fun W hW => ?_, hK _ ?_⟩
      · have g9 := d5 W hW
        go_simp
      clear hK K
      refine wpQuiet_step (fun K hK => ?_)
      go_simp
      refine ⟨_, fun _ _ => rfl, hK _ ?_⟩
      clear hK K
      refine wpQuiet_step (fun K hK => ?_)
      go_simp
      refine ⟨.string S3, fun W hW => ?_, hK _ ?_⟩
      · refine (rnum9 _ 1 1 wid1 W).mono ?_
        rintro e w5 ⟨rfl, hg5⟩
        rw [HS3.out]
        exact ⟨rfl, grown_up hW hg5⟩
      clear hK K
      refine wpQuiet_step (fun K hK => ?_)
      go_simp
      refine ⟨_, fun _ _ => rfl, hK _ ?_⟩
      clear hK K
      refine wpQuiet_step (fun K hK => ?_)
      go_simp
      refine ⟨_, fun _ _ => rfl, hK _ ?_⟩
      clear hK K
      refine wpQuiet_step (fun K hK => ?_)
      go_simp
      refine ⟨.int .i64 x.o, fun W hW => ?_, hK _ ?_⟩
      · have g9 := d6 W hW
        go_simp
      clear hK K
      refine wpQuiet_step (fun K hK => ?_)
      go_simp
      refine ⟨_, fun _ _ => rfl, hK _ ?_⟩
      clear hK K
      refine wpQuiet_step (fun K hK => ?_)
      go_simp
      refine ⟨.string S4, fun W hW => ?_, hK _ ?_⟩
      · refine (rnum9 _ 1 1 wid1 W).mono ?_
        rintro e w5 ⟨rfl, hg5⟩
        rw [HS4.out]
        exact ⟨rfl, grown_up hW hg5⟩
      clear hK K
      refine wpQuiet_step (fun K hK => ?_)
      go_simp
      refine ⟨_, fun _ _ => rfl, hK _ ?_⟩
      clear hK K
      refine wpQuiet_step (fun K hK => ?_)
      go_simp
      refine ⟨_, fun _ _ => rfl, hK _ ?_⟩
      clear hK K
      refine wpQuiet_step (fun K hK => ?_)
      go_simp
      refine ⟨.int .i64 x.k, fun W hW => ?_, hK _ ?_⟩
      · have g9 := d7 W hW
        go_simp
      clear hK K
      refine wpQuiet_step (fun K hK => ?_)
      go_simp
      refine ⟨_, fun _ _ => rfl, hK _ ?_⟩
      clear hK K
      refine wpQuiet_step (fun K hK => ?_)
      go_simp
      refine ⟨.string S5, fun W hW => ?_, hK _ ?_⟩
      · refine (rnum9 _ 1 1 wid1 W).mono ?_
        rintro e w5 ⟨rfl, hg5⟩
        rw [HS5.out]
        exact ⟨rfl, grown_up hW hg5⟩
      clear hK K
      refine wpQuiet_step (fun K hK => ?_)
      go_simp
      refine ⟨_, fun _ _ => rfl, hK _ ?_⟩
      clear hK K
      refine wpQuiet_step (fun K hK => ?_)
      go_simp
      refine ⟨_, fun _ _ => rfl, hK _ ?_⟩
      clear hK K
      refine wpQuiet_step (fun K hK => ?_)
      go_simp
      refine ⟨_, fun _ _ => rfl, hK _ ?_⟩
      clear hK K
      refine wpQuiet_nil ?_
      intro wE hE
      go_wp2
      go_ret2
      rw [HEE.out, ← HA.out]
      exact ⟨rfl, grown_up G4 hE⟩
    · have h0' : (x.v.k == 0) = false := by simp [h0]
      have hc : okC x.v = true := by
        rcases valO_cases Hvo.out with h | h
        · exact absurd (by rw [h]; rfl) h0
        · exact h
      obtain ⟨S6, HS6⟩ : ∃ S, Hid (mkB (be 1 1) = S) := ⟨_, rfl⟩
      obtain ⟨S7, HS7⟩ : ∃ S, Hid (vB x.v = S) := ⟨_, rfl⟩
      have hv7 : vB x.v = mkB (encC x.v) := by unfold vB; rw [if_pos hc]
      have HS17 : Hid (S1 = S6 ++ S7) := by show _ = _; rw [← HS1.out, ← HS6.out, ← HS7.out, hv7, mkB_append]; unfold encO; rw [if_neg h0]
      have z6 : S6.size = 1 := by rw [← HS6.out, mkB_size, be_len]
      have z7 : S7.size ≤ 12 := by rw [← HS7.out, hv7, mkB_size]; exact encC_len _ hc
      have t0 : ¬ 9223372036854775807 < S6.size + S7.size := by omega
      have t1 : ¬ 9223372036854775807 < S0.size + (S6.size + S7.size) := by have := HZ.out; omega
      rw [HS7.out] at HVv
      clear h0 hc hv7 z6 z7
      go_upto_region 7 with (go_at_call 10; refine (HVv.out _).mono ?_; rintro e w3 ⟨rfl, hg3⟩)
      have G2 := grown_up G2 hg3
      have hb2 := hb2.kept hg3 (by simp)
      clear c0 c1 c2 c3 c4 c5 c6 c7
      obtain ⟨c0, c1, c2, c3, c4, c5, c6, c7⟩ := hb2.cs
      go_upto_region 8 with (go_at_call 27; refine (rfnum_any 1 1 _ (by decide)).mono ?_; rintro e w4 ⟨rfl, hg4⟩; rw [wid1, show (⟨(be 1 1).toArray⟩ : ByteArray) = S6 from HS6.out])
      have G4 := grown_up G2 hg4
      have hb4 := hb2.kept hg4 (by simp)
      clear c0 c1 c2 c3 c4 c5 c6 c7
      have d4 : ∀ W : World, w4.grownBy W none → W.cell? ⟨w.heap.size, 4, none⟩ = some (.int .i64 x.sl) := fun W h => (hb4.kept h (by simp)).cs.2.2.2.2.1
      have d5 : ∀ W : World, w4.grownBy W none → W.cell? ⟨w.heap.size, 5, none⟩ = some (.int .i64 x.p) := fun W h => (hb4.kept h (by simp)).cs.2.2.2.2.2.1
      have d6 : ∀ W : World, w4.grownBy W none → W.cell? ⟨w.heap.size, 6, none⟩ = some (.int .i64 x.o) := fun W h => (hb4.kept h (by simp)).cs.2.2.2.2.2.2.1
      have d7 : ∀ W : World, w4.grownBy W none → W.cell? ⟨w.heap.size, 7, none⟩ = some (.int .i64 x.k) := fun W h => (hb4.kept h (by simp)).cs.2.2.2.2.2.2.2
      have dr : w4.grownBy w4.drew none := ⟨rfl, rfl, rfl, Nat.le_refl _, fun _ _ _ => rfl⟩
      obtain ⟨A, HA⟩ : ∃ A, Hid (S0 ++ (S6 ++ S7) = A) := ⟨_, rfl⟩
      rw [HA.out]
      have zA : A.size ≤ 14 := by rw [← HA.out]; rw [← HS17.out, ByteArray.size_append]; have := HZ.out; omega
      have q2 : ¬ 9223372036854775807 < A.size + S2.size := by have := HZ.out; omega
      have q3 : ¬ 9223372036854775807 < A.size + S2.size + S3.size := by have := HZ.out; omega
      have q4 : ¬ 9223372036854775807 < A.size + S2.size + S3.size + S4.size := by have := HZ.out; omega
      have q5 : ¬ 9223372036854775807 < A.size + S2.size + S3.size + S4.size + S5.size := by have := HZ.out; omega
      generalize w.heap.size = g at *
      refine wp_region_class9 (C := fun w' => w4.grownBy w' none) (by kernel_rfl) (by kernel_rfl) dr ?_
      refine wpQuiet_step (fun K hK => ?_)
      go_simp
      refine ⟨_, fun _ _ => rfl, hK _ ?_⟩
      clear hK K
      refine wpQuiet_step (fun K hK => ?_)
      go_simp
      refine ⟨_, fun _ _ => rfl, hK _ ?_⟩
      clear hK K
      refine wpQuiet_step (fun K hK => ?_)
      go_simp
      refine ⟨.int .i64 x.sl, fun W hW => ?_, hK _ ?_⟩
      · have g9 := d4 W hW
        go_simp
      clear hK K
      refine wpQuiet_step (fun K hK => ?_)
      go_simp
      refine ⟨_, fun _ _ => rfl, hK _ ?_⟩
      clear hK K
      refine wpQuiet_step (fun K hK => ?_)
      go_simp
      refine ⟨.string S2, fun W hW => ?_, hK _ ?_⟩
      · refine (rnum9 _ 4 4 wid4 W).mono ?_
        rintro e w5 ⟨rfl, hg5⟩
        rw [HS2.out]
        exact ⟨rfl, grown_up hW hg5⟩
      clear hK K
      refine wpQuiet_step (fun K hK => ?_)
      go_simp
      refine ⟨_, fun _ _ => rfl, hK _ ?_⟩
      clear hK K
      refine wpQuiet_step (fun K hK => ?_)
      go_simp
      refine ⟨_, fun _ _ => rfl, hK _ ?_⟩
      clear hK K
      refine wpQuiet_step (fun K hK => ?_)
      go_simp
      refine ⟨.int .i64 x.p, fun W hW => ?_, hK _ ?_⟩
      · have g9 := d5 W hW
        go_simp
      clear hK K
      refine wpQuiet_step (fun K hK => ?_)
      go_simp
      refine ⟨_, fun _ _ => rfl, hK _ ?_⟩
      clear hK K
      refine wpQuiet_step (fun K hK => ?_)
      go_simp
      refine ⟨.string S3, fun W hW => ?_, hK _ ?_⟩
      · refine (rnum9 _ 1 1 wid1 W).mono ?_
        rintro e w5 ⟨rfl, hg5⟩
        rw [HS3.out]
        exact ⟨rfl, grown_up hW hg5⟩
      clear hK K
      refine wpQuiet_step (fun K hK => ?_)
      go_simp
      refine ⟨_, fun _ _ => rfl, hK _ ?_⟩
      clear hK K
      refine wpQuiet_step (fun K hK => ?_)
      go_simp
      refine ⟨_, fun _ _ => rfl, hK _ ?_⟩
      clear hK K
      refine wpQuiet_step (fun K hK => ?_)
      go_simp
      refine ⟨.int .i64 x.o, fun W hW => ?_, hK _ ?_⟩
      · have g9 := d6 W hW
        go_simp
      clear hK K
      refine wpQuiet_step (fun K hK => ?_)
      go_simp
      refine ⟨_, fun _ _ => rfl, hK _ ?_⟩
      clear hK K
      refine wpQuiet_step (fun K hK => ?_)
      go_simp
      refine ⟨.string S4, fun W hW => ?_, hK _ ?_⟩
      · refine (rnum9 _ 1 1 wid1 W).mono ?_
        rintro e w5 ⟨rfl, hg5⟩
        rw [HS4.out]
        exact ⟨rfl, grown_up hW hg5⟩
      clear hK K
      refine wpQuiet_step (fun K hK => ?_)
      go_simp
      refine ⟨_, fun _ _ => rfl, hK _ ?_⟩
      clear hK K
      refine wpQuiet_step (fun K hK => ?_)
      go_simp
      refine ⟨_, fun _ _ => rfl, hK _ ?_⟩
      clear hK K
      refine wpQuiet_step (fun K hK => ?_)
      go_simp
      refine ⟨.int .i64 x.k, fun W hW => ?_, hK _ ?_⟩
      · have g9 := d7 W hW
        go_simp
      clear hK K
      refine wpQuiet_step (fun K hK => ?_)
      go_simp
      refine ⟨_, fun _ _ => rfl, hK _ ?_⟩
      clear hK K
      refine wpQuiet_step (fun K hK => ?_)
      go_simp
      refine ⟨.string S5, fun W hW => ?_, hK _ ?_⟩
      · refine (rnum9 _ 1 1 wid1 W).mono ?_
        rintro e w5 ⟨rfl, hg5⟩
        rw [HS5.out]
        exact ⟨rfl, grown_up hW hg5⟩
      clear hK K
      refine wpQuiet_step (fun K hK => ?_)
      go_simp
      refine ⟨_, fun _ _ => rfl, hK _ ?_⟩
      clear hK K
      refine wpQuiet_step (fun K hK => ?_)
      go_simp
      refine ⟨_, fun _ _ => rfl, hK _ ?_⟩
      clear hK K
      refine wpQuiet_step (fun K hK => ?_)
      go_simp
      refine ⟨_, fun _ _ => rfl, hK _ ?_⟩
      clear hK K
      refine wpQuiet_nil ?_
      intro wE hE
      go_wp2
      go_ret2
      rw [HEE.out, HS17.out, ← HA.out]
      exact ⟨rfl, grown_up G4 hE⟩
end Go.Proofs.Ythopmlgfklhagaa
