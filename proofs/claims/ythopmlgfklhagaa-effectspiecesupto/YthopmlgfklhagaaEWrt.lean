/- Contracts, over the turned program: whether a record may be, a record's bytes. Conditions: those that each theorem states. -/
import Derived.Test.YthopmlgfklhagaaEVal
namespace Go.Proofs.Ythopmlgfklhagaa
open Go.RowKit
set_option linter.unusedVariables false

theorem run_neZ (a b : Int) (s : ByteArray) (w : World) : (binOp .neq 24 (.agg #[.int .i64 a, .int .i64 b, .string s]) (.agg #[.int .i64 0, .int .i64 0, .string ⟨#[]⟩])).run Try.prog w = .ok (.bool (!zeroB ⟨a, b, s⟩)) w := by
  unfold zeroB
  dsimp only
  cases h1 : (a == 0) with
  | false => go_simp
  | true =>
    cases h2 : (b == 0) with
    | false => go_simp
    | true =>
      cases h3 : s.toList.isEmpty with
      | true =>
        have h3' : (s.toList == []) = true := by simpa using h3
        go_simp
      | false =>
        have h3' : (s.toList == []) = false := by rw [beq_eq_false_iff_ne]; intro h; rw [h] at h3; cases h3
        go_simp
theorem Rc9.fl_ir (x : Rc9) (h : x.wf) (k : Nat) : ir (x.fl k) := by
  obtain ⟨_, _, _, h1, h2, h3⟩ := h
  unfold Rc9.fl
  split
  · exact h1
  · split
    · exact h2
    · exact h3
theorem okR_e {x : Rc9} (h : ¬ (0 ≤ x.e ∧ x.e ≤ 3)) : okR x = false := by
  cases hr : okR x with
  | false => rfl
  | true => exact absurd (okR_parts hr).1 h
theorem okR_v {x : Rc9} (h : valO x.v = false) : okR x = false := by
  cases hr : okR x with
  | false => rfl
  | true => have := (okR_parts hr).2.1; rw [h] at this; cases this
theorem okR_s {x : Rc9} (h : ¬ (0 ≤ x.sl ∧ x.sl ≤ 1000000)) : okR x = false := by
  cases hr : okR x with
  | false => rfl
  | true => exact absurd (okR_parts hr).2.2.1 h
theorem okR_f {x : Rc9} {k : Nat} (hk : k < 3) (h : byteOk (x.fl k) = false) : okR x = false := by
  cases hr : okR x with
  | false => rfl
  | true =>
    obtain ⟨_, _, _, h1, h2, h3⟩ := okR_parts hr
    rcases (by omega : k = 0 ∨ k = 1 ∨ k = 2) with rfl | rfl | rfl
    · rw [show x.fl 0 = x.p from rfl, h1] at h; cases h
    · rw [show x.fl 1 = x.o from rfl, h2] at h; cases h
    · rw [show x.fl 2 = x.k from rfl, h3] at h; cases h
theorem byteOk_fl {x : Rc9} (h : okR x = true) (k : Nat) : byteOk (x.fl k) = true := by
  obtain ⟨_, _, _, h1, h2, h3⟩ := okR_parts h
  unfold Rc9.fl
  split
  · exact h1
  · split
    · exact h2
    · exact h3

theorem grown_none9 {w w1 : World} {row : Option Nat} (h : w.grownBy w1 none) : w.grownBy w1 row := ⟨h.os, h.tape, h.output, h.size, fun k hk _ => h.block k hk (by simp)⟩
theorem grown_up' {w w1 w2 : World} {row : Option Nat} (h : w.grownBy w1 none) (h' : w1.grownBy w2 row) : w.grownBy w2 row := grown_trans (grown_none9 h) h' (.inl rfl)
/-- The bytes of the first k counts. -/
def cntB (x : Rc9) (k : Nat) : List UInt8 := ([be x.p.toNat 1, be x.o.toNat 1, be x.k.toNat 1].take k).flatten
theorem cntB_0 (x : Rc9) : cntB x 0 = [] := rfl
theorem cntB_step (x : Rc9) (k : Nat) (h : k < 3) : cntB x (k + 1) = cntB x k ++ be (x.fl k).toNat 1 := by
  rcases (by omega : k = 0 ∨ k = 1 ∨ k = 2) with rfl | rfl | rfl <;> rfl
theorem cntB_len (x : Rc9) (k : Nat) : (cntB x k).length ≤ 3 := by
  rcases (by omega : k = 0 ∨ k = 1 ∨ k = 2 ∨ 3 ≤ k) with rfl | rfl | rfl | h
  · exact Nat.zero_le _
  · show 1 ≤ 3; omega
  · show 2 ≤ 3; omega
  · unfold cntB
    rw [List.take_of_length_le (by simpa using h)]
    show 3 ≤ 3
    omega
theorem enc9_cnt (x : Rc9) : be x.e.toNat 1 ++ encO x.v ++ be x.sl.toNat 4 ++ cntB x 3 = enc9 x := by
  unfold enc9
  rw [List.append_assoc, List.append_assoc]
  rfl

set_option maxRecDepth 100000 in
set_option maxHeartbeats 400000 in
theorem ecounts_any (x : Rc9) (w : World) :
    Calls Try.prog 36 #[x.val] w fun e w' => e = .returned (.agg #[.int .i64 x.p, .int .i64 x.o, .int .i64 x.k]) ∧ w.grownBy w' none := by
  obtain ⟨e, ⟨vk, vn, vs⟩, sl, p, o, k⟩ := x
  unfold Rc9.val
  dsimp only
  go_enter Try.func36, Try.ntmps36
  go_wp2
  have hV : Ab9 ((w.alloc (.cells #[.int .i64 e, .int .i64 vk, .int .i64 vn, .string vs, .int .i64 sl, .int .i64 p, .int .i64 o, .int .i64 k] 42)).alloc (.cells #[.int .i64 p, .int .i64 o, .int .i64 k] 76)) (w.heap.size + 1) p o k := by
    have := heap_alloc_new (w.alloc (.cells #[.int .i64 e, .int .i64 vk, .int .i64 vn, .string vs, .int .i64 sl, .int .i64 p, .int .i64 o, .int .i64 k] 42)) (.cells #[.int .i64 p, .int .i64 o, .int .i64 k] 76)
    simpa [Ab9] using this
  refine bodyPost_ret (results_ab9 rfl _ (w.heap.size + 1) _ p o k rfl hV) rfl ?_
  exact ⟨rfl, grown_trans (World.grownBy_alloc _ _ _) (World.grownBy_alloc _ _ _) (.inl rfl)⟩

set_option maxRecDepth 100000 in
set_option maxHeartbeats 1000000 in
theorem ewo_any (v : Value) (l : List UInt8) (x : V) (base : Nat) (w : World) (hx : x.wf) (hk : valO x = true) (hown : Own 5 w base v l) (hb : base ≤ w.heap.size) (hl : l.length ≤ 1099511000000) :
    Calls Try.prog 35 #[v, x.val] w fun e w' => ∃ v', e = .returned v' ∧ Own 5 w' base v' (l ++ encO x) ∧ Fr w v w' v' := by
  have hV := Vb.new w x
  have hvne : ∀ k, v.ownBlock = some k → k ≠ w.heap.size := fun k hk => by have := (hown.lt k hk).2; omega
  have HL : Hid (l.length ≤ 140737488355300) := by show _ ≤ _; omega
  have hO := hown.alloc (.cells #[.int .i64 x.k, .int .i64 x.n, .string x.s] 24)
  have hF := (Fr.refl w v).alloc (.cells #[.int .i64 x.k, .int .i64 x.n, .string x.s] 24)
  have hbW : base ≤ (w.alloc (.cells #[.int .i64 x.k, .int .i64 x.n, .string x.s] 24)).heap.size := by simp; omega
  by_cases h0 : x.k = 0
  · have h0' : (x.k == 0) = true := by simp [h0]
    have he : encO x = be 0 1 := by unfold encO; rw [if_pos h0]
    rw [he]
    unfold V.val
    have c0 := hV.c0
    clear h0
    go_enter Try.func35, Try.ntmps35
    go_wp2_with fail
    refine (num_any v l 0 1 base _ (by decide) hO hbW HL.out).mono ?_
    rintro e w1 ⟨v1, rfl, ho1, hf1⟩
    rw [wid1] at ho1
    go_wp2
    go_ret
    exact ⟨_, rfl, ho1, hF.trans hf1⟩
  · have h0' : (x.k == 0) = false := by simp [h0]
    have hc : okC x = true := by
      rcases valO_cases hk with rfl | h
      · exact absurd rfl h0
      · exact h
    have hov : okV x = true := by unfold okC at hc; rw [Bool.and_eq_true] at hc; exact hc.1
    have he : encO x = be 1 1 ++ encC x := by unfold encO; rw [if_neg h0]
    rw [he, ← List.append_assoc]
    have HL2 : Hid ((l ++ be 1 1).length ≤ 1099511627776) := by show _ ≤ _; rw [List.length_append, be_len]; omega
    have hc9 := fun (v1 : Value) W => ewriteValue_any v1 (l ++ be 1 1) x base W hx hov
    unfold V.val at hc9 ⊢
    have c0 := hV.c0
    have c1 := hV.c1
    have c2 := hV.c2
    clear h0 hc he hk hov
    go_enter Try.func35, Try.ntmps35
    go_upto_region 3 with fail
    generalize w.alloc (.cells #[.int .i64 x.k, .int .i64 x.n, .string x.s] 24) = W at *
    have dr : W.grownBy W.drew none := ⟨rfl, rfl, rfl, Nat.le_refl _, fun _ _ _ => rfl⟩
    have HN : Hid (∀ W1 : World, W.grownBy W1 none → W1.heap.size = W.heap.size → Calls Try.prog 34 #[v, .int .u64 1, .int .i64 1] W1 fun e w' => ∃ v', e = .returned v' ∧ Own 5 w' base v' (l ++ be 1 1) ∧ Fr W v w' v' ∧ Vb w' w.heap.size x ∧ base ≤ w'.heap.size) := by
      intro W1 hg hs
      refine (num_any v l 1 1 base W1 (by decide) (hO.kept hg (by cases v.ownBlock <;> simp)) (by omega) HL.out).mono ?_
      rintro e w1 ⟨v1, rfl, ho1, hf1⟩
      rw [wid1] at ho1
      refine ⟨v1, rfl, ho1, ⟨grown_up' hg hf1.1, ?_⟩, (hV.kept hg (by simp)).kept hf1.1 (by intro h; exact hvne _ h.symm rfl), by have := hf1.1.size; omega⟩
      rcases hf1.2 with h | ⟨g, h1, h2⟩
      · exact .inl h
      · exact .inr ⟨g, h1, by omega⟩
    clear hO hbW HL hvne
    go_region_with (first
      | (go_at_call 34; refine (HN.out _ (by first | exact dr | exact World.grownBy.refl _ _) (by first | rfl | simp)).mono ?_; rintro e w1 ⟨v1, rfl, ho1, hf1, hV1, hb1⟩; have d0 := hV1.c0; have d1 := hV1.c1; have d2 := hV1.c2)
      | (go_at_call 25; refine (hc9 _ _ ho1 hb1 HL2.out).mono ?_; rintro e w2 ⟨v2, rfl, ho2, hf2⟩))
    all_goals
      go_wp2
      go_ret
      exact ⟨_, rfl, ho2, hF.trans (hf1.trans hf2)⟩

set_option maxRecDepth 100000 in
set_option maxHeartbeats 2000000 in
theorem emayBe_any (x : Rc9) (w : World) (hx : x.wf) :
    Calls Try.prog 33 #[x.val] w fun e w' => e = .returned (.bool (okR x)) ∧ w.grownBy w' none := by
  have hb := Rb.new 42 w x
  have hg0 := World.grownBy_alloc w (.cells #[.int .i64 x.e, .int .i64 x.v.k, .int .i64 x.v.n, .string x.v.s, .int .i64 x.sl, .int .i64 x.p, .int .i64 x.o, .int .i64 x.k] 42) none
  obtain ⟨B, HB⟩ : ∃ B, Hid (okR x = B) := ⟨_, rfl⟩
  rw [HB.out]
  have Hcn := hide (ecounts_any x)
  have Hvm := hide (fun W => evMayBe_any x.v W hx.2.1)
  have hnz := fun W => run_neZ x.v.k x.v.n x.v.s W
  obtain ⟨c0, c1, c2, c3, c4, c5, c6, c7⟩ := hb.cs
  unfold Rc9.val at Hcn ⊢
  unfold V.val at Hvm
  rw [show (⟨x.v.k, x.v.n, x.v.s⟩ : V) = x.v from rfl] at hnz
  by_cases a1 : x.e < 0
  · have Hf : Hid (B = false) := by show _ = _; rw [← HB.out]; exact okR_e (by omega)
    go_enter Try.func33, Try.ntmps33
    go_wp2
    go_ret
    rw [Hf.out]
    exact ⟨rfl, hg0⟩
  by_cases a2 : 3 < x.e
  · have Hf : Hid (B = false) := by show _ = _; rw [← HB.out]; exact okR_e (by omega)
    go_enter Try.func33, Try.ntmps33
    go_wp2
    go_ret
    rw [Hf.out]
    exact ⟨rfl, hg0⟩
  cases hz : zeroB x.v with
  | true =>
    rw [hz] at hnz
    have hg1 := hg0
    have hb1 := hb
    have hzo := hz
    clear hz Hvm
    by_cases a3 : x.sl < 0
    · have Hf : Hid (B = false) := by show _ = _; rw [← HB.out]; exact okR_s (by omega)
      go_enter Try.func33, Try.ntmps33
      go_wp2
      go_ret
      rw [Hf.out]
      exact ⟨rfl, hg0⟩
    by_cases a4 : 1000000 < x.sl
    · have Hf : Hid (B = false) := by show _ = _; rw [← HB.out]; exact okR_s (by omega)
      go_enter Try.func33, Try.ntmps33
      go_wp2
      go_ret
      rw [Hf.out]
      exact ⟨rfl, hg0⟩
    have HT : Hid ((∀ k, k < 3 → byteOk (x.fl k) = true) → B = true) := by
      intro h
      rw [← HB.out]
      exact okR_of ⟨by omega, by omega⟩ (by unfold valO; rw [hzo, Bool.true_or]) ⟨by omega, by omega⟩ (h 0 (by omega)) (h 1 (by omega)) (h 2 (by omega))
    go_enter Try.func33, Try.ntmps33
    go_wp2_with (go_at_call 36; refine (Hcn.out _).mono ?_; rintro e w2 ⟨rfl, hg2⟩; have hgg := grown_up hg0 hg2)
    go_loop [33] (fun i => ∃ k : Nat, k ≤ 3 ∧ i = .int .i64 k ∧ Hid (∀ j, j < k → byteOk (x.fl j) = true)) (fun i => 3 - (intOf i).toNat)
    case atStart => exact ⟨0, by omega, rfl, fun j hj => by omega⟩
    case round =>
      obtain ⟨k, hk, rfl, Hk⟩ := hrel
      by_cases hlt : k < 3
      · have hix := run_idx9 x k hlt w2
        have Hw := hide (n2u_wr9 (x.fl k))
        have HF := hide (fits_byte9 (x.fl k) (x.fl_ir hx k))
        have Hn := hide (fun h => okR_f (x := x) hlt h)
        have Hstep : Hid (byteOk (x.fl k) = true → ∀ j, j < k + 1 → byteOk (x.fl j) = true) := by
          intro h j hj
          rcases Nat.lt_or_ge j k with h1 | h1
          · exact Hk.out j h1
          · obtain rfl : j = k := by omega
            exact h
        generalize x.fl k = o at *
        cases a5 : byteOk o with
        | true =>
          rw [a5] at HF
          have Hs := hide (Hstep.out a5)
          clear a5
          go_wp2_with (go_at_call 49; rw [Hw.out]; refine (HF.out _).mono ?_; rintro e w3 ⟨rfl, hw3⟩; obtain rfl := hw3.symm)
          go_round
          case rel => exact ⟨k + 1, by omega, by go_num, Hs.out⟩
          case measure => simp [intOf]; omega
        | false =>
          rw [a5] at HF
          have Hbad : Hid (B = false) := by show _ = _; rw [← HB.out]; exact Hn.out a5
          clear a5
          go_wp2_with (go_at_call 49; rw [Hw.out]; refine (HF.out _).mono ?_; rintro e w3 ⟨rfl, hw3⟩; obtain rfl := hw3.symm)
          go_ret
          rw [Hbad.out]
          exact ⟨rfl, hgg⟩
      · have Hall := hide (HT.out (fun j hj => Hk.out j (by omega)))
        go_wp2
        go_ret
        rw [Hall.out]
        exact ⟨rfl, hgg⟩
  | false =>
    rw [hz] at hnz
    cases ho : okC x.v with
    | false =>
      have Hf : Hid (B = false) := by show _ = _; rw [← HB.out]; exact okR_v (by unfold valO; rw [hz, ho]; rfl)
      rw [ho] at Hvm
      clear hz ho
      go_enter Try.func33, Try.ntmps33
      go_wp2_with (go_at_call 24; refine (Hvm.out _).mono ?_; rintro e w1 ⟨rfl, hg1⟩)
      go_ret
      rw [Hf.out]
      exact ⟨rfl, grown_up hg0 hg1⟩
    | true =>
      rw [ho] at Hvm
      have hzo := ho
      clear hz ho
      by_cases a3 : x.sl < 0
      · have Hf : Hid (B = false) := by show _ = _; rw [← HB.out]; exact okR_s (by omega)
        go_enter Try.func33, Try.ntmps33
        go_wp2_with (go_at_call 24; refine (Hvm.out _).mono ?_; rintro e w1 ⟨rfl, hg1⟩; have hb1 := hb.kept hg1 (by simp); obtain ⟨d0, d1, d2, d3, d4, d5, d6, d7⟩ := hb1.cs)
        go_ret
        rw [Hf.out]
        exact ⟨rfl, grown_up hg0 hg1⟩
      by_cases a4 : 1000000 < x.sl
      · have Hf : Hid (B = false) := by show _ = _; rw [← HB.out]; exact okR_s (by omega)
        go_enter Try.func33, Try.ntmps33
        go_wp2_with (go_at_call 24; refine (Hvm.out _).mono ?_; rintro e w1 ⟨rfl, hg1⟩; have hb1 := hb.kept hg1 (by simp); obtain ⟨d0, d1, d2, d3, d4, d5, d6, d7⟩ := hb1.cs)
        go_ret
        rw [Hf.out]
        exact ⟨rfl, grown_up hg0 hg1⟩
      have HT : Hid ((∀ k, k < 3 → byteOk (x.fl k) = true) → B = true) := by
        intro h
        rw [← HB.out]
        exact okR_of ⟨by omega, by omega⟩ (by unfold valO; rw [hzo, Bool.or_true]) ⟨by omega, by omega⟩ (h 0 (by omega)) (h 1 (by omega)) (h 2 (by omega))
      go_enter Try.func33, Try.ntmps33
      go_wp2_with (first | (go_at_call 24; refine (Hvm.out _).mono ?_; rintro e w1 ⟨rfl, hg1⟩; have hb1 := hb.kept hg1 (by simp); obtain ⟨d0, d1, d2, d3, d4, d5, d6, d7⟩ := hb1.cs) | (go_at_call 36; refine (Hcn.out _).mono ?_; rintro e w2 ⟨rfl, hg2⟩; have hgg := grown_up (grown_up hg0 hg1) hg2))
      go_loop [33] (fun i => ∃ k : Nat, k ≤ 3 ∧ i = .int .i64 k ∧ Hid (∀ j, j < k → byteOk (x.fl j) = true)) (fun i => 3 - (intOf i).toNat)
      case atStart => exact ⟨0, by omega, rfl, fun j hj => by omega⟩
      case round =>
        obtain ⟨k, hk, rfl, Hk⟩ := hrel
        by_cases hlt : k < 3
        · have hix := run_idx9 x k hlt w2
          have Hw := hide (n2u_wr9 (x.fl k))
          have HF := hide (fits_byte9 (x.fl k) (x.fl_ir hx k))
          have Hn := hide (fun h => okR_f (x := x) hlt h)
          have Hstep : Hid (byteOk (x.fl k) = true → ∀ j, j < k + 1 → byteOk (x.fl j) = true) := by
            intro h j hj
            rcases Nat.lt_or_ge j k with h1 | h1
            · exact Hk.out j h1
            · obtain rfl : j = k := by omega
              exact h
          generalize x.fl k = o at *
          cases a5 : byteOk o with
          | true =>
            rw [a5] at HF
            have Hs := hide (Hstep.out a5)
            clear a5
            go_wp2_with (go_at_call 49; rw [Hw.out]; refine (HF.out _).mono ?_; rintro e w3 ⟨rfl, hw3⟩; obtain rfl := hw3.symm)
            go_round
            case rel => exact ⟨k + 1, by omega, by go_num, Hs.out⟩
            case measure => simp [intOf]; omega
          | false =>
            rw [a5] at HF
            have Hbad : Hid (B = false) := by show _ = _; rw [← HB.out]; exact Hn.out a5
            clear a5
            go_wp2_with (go_at_call 49; rw [Hw.out]; refine (HF.out _).mono ?_; rintro e w3 ⟨rfl, hw3⟩; obtain rfl := hw3.symm)
            go_ret
            rw [Hbad.out]
            exact ⟨rfl, hgg⟩
        · have Hall := hide (HT.out (fun j hj => Hk.out j (by omega)))
          go_wp2
          go_ret
          rw [Hall.out]
          exact ⟨rfl, hgg⟩

set_option maxRecDepth 100000 in
set_option maxHeartbeats 2000000 in
theorem ewrite_any (x : Rc9) (w : World) (hx : x.wf) :
    Calls Try.prog 13 #[x.val] w fun e w' => e = .returned (.tuple #[.string (rB x), .int .i64 (rE9 x)]) ∧ w.grownBy w' none := by
  have hb := Rb.new 42 w x
  have hg0 := World.grownBy_alloc w (.cells #[.int .i64 x.e, .int .i64 x.v.k, .int .i64 x.v.n, .string x.v.s, .int .i64 x.sl, .int .i64 x.p, .int .i64 x.o, .int .i64 x.k] 42) none
  have Hm := hide (fun W => emayBe_any x W hx)
  obtain ⟨c0, c1, c2, c3, c4, c5, c6, c7⟩ := hb.cs
  unfold rB rE9
  cases hk : okR x with
  | false =>
    rw [hk] at Hm
    rw [if_neg (by decide), if_neg (by decide)]
    unfold Rc9.val at Hm ⊢
    clear hk
    go_enter Try.func13, Try.ntmps13
    go_wp2_with (go_at_call 33; refine (Hm.out _).mono ?_; rintro e w1 ⟨rfl, hg1⟩)
    go_ret2
    exact ⟨rfl, grown_up hg0 hg1⟩
  | true =>
    rw [hk] at Hm
    rw [if_pos rfl, if_pos rfl]
    obtain ⟨o1, o2, o3, o4, o5, o6⟩ := okR_parts hk
    have He := hide (nat_wr9 x.e 3 o1 (by decide))
    have Hsl := hide (nat_wr9 x.sl 1000000 o3 (by decide))
    have Hfl := hide (fun k => byteOk_nat (byteOk_fl hk k))
    have Hfw := hide (fun k => nat_wr9 (x.fl k) 255 (by have := of_decide_eq_true (byteOk_fl hk k); exact this) (by decide))
    have Hcn := hide (ecounts_any x)
    have Hwo := hide (fun v l base W => ewo_any v l x.v base W hx.2.1 o2)
    have Hov := hide (encO_len x.v o2)
    unfold Rc9.val at Hm Hcn ⊢
    unfold V.val at Hwo
    clear hk o1 o2 o3 o4 o5 o6
    go_enter Try.func13, Try.ntmps13
    go_wp2_with (go_at_call 33; refine (Hm.out _).mono ?_; rintro e w1 ⟨rfl, hg1⟩; have hb1 := hb.kept hg1 (by simp); obtain ⟨d0, d1, d2, d3, d4, d5, d6, d7⟩ := hb1.cs; clear c0 c1 c2 c3 c4 c5 c6 c7 hb)
    rw [He.out.1]
    have hgA := grown_up hg0 hg1
    have hgs := hgA.size
    refine (num_any (.slice none 0 0) [] x.e.toNat 1 w1.heap.size w1 He.out.2 (Own.nil _ _ _) (Nat.le_refl _) (by decide)).mono ?_
    rintro e w2 ⟨v2, rfl, ho2, hf2⟩
    rw [wid1, List.nil_append] at ho2
    have hbl := hb1.lt
    have hb2 := hb1.kept hf2.1 (by simp [Value.ownBlock])
    have hgB := grown_up hgA hf2.1
    have hn2 : ∀ k, v2.ownBlock = some k → k ≠ w.heap.size := fun k hk => by have := (ho2.lt k hk).1; omega
    have hs2 := hf2.1.size
    clear d0 d1 d2 d3 d4 d5 d6 d7
    obtain ⟨d0, d1, d2, d3, d4, d5, d6, d7⟩ := hb2.cs
    go_wp2_with fail
    refine (Hwo.out v2 _ w1.heap.size w2 ho2 hs2 (by rw [be_len]; decide)).mono ?_
    rintro e w3 ⟨v3, rfl, ho3, hf3⟩
    have hb3 := hb2.kept hf3.1 (by intro h; exact hn2 _ h.symm rfl)
    have hgC : w.grownBy w3 none := grown_new hgB hf3.1 (fun j hj => by have := (ho2.lt j hj).1; omega)
    have hn3 : ∀ k, v3.ownBlock = some k → k ≠ w.heap.size := fun k hk => by have := (ho3.lt k hk).1; omega
    have hs3 := hf3.1.size
    have Hl3 := hide (show (be x.e.toNat 1 ++ encO x.v).length ≤ 14 by rw [List.length_append, be_len]; have := Hov.out; omega)
    clear d0 d1 d2 d3 d4 d5 d6 d7
    obtain ⟨d0, d1, d2, d3, d4, d5, d6, d7⟩ := hb3.cs
    go_wp2_with fail
    rw [Hsl.out.1]
    refine (num_any v3 _ x.sl.toNat 4 w1.heap.size w3 Hsl.out.2 ho3 (by omega) (by have := Hl3.out; omega)).mono ?_
    rintro e w4 ⟨v4, rfl, ho4, hf4⟩
    rw [show wid 4 = 4 from by decide] at ho4
    have hb4 := hb3.kept hf4.1 (by intro h; exact hn3 _ h.symm rfl)
    have hgD : w.grownBy w4 none := grown_new hgC hf4.1 (fun j hj => by have := (ho3.lt j hj).1; omega)
    have hs4 := hf4.1.size
    clear d0 d1 d2 d3 d4 d5 d6 d7
    obtain ⟨d0, d1, d2, d3, d4, d5, d6, d7⟩ := hb4.cs
    go_wp2_with fail
    refine (Hcn.out _).mono ?_
    rintro e w5 ⟨rfl, hg5⟩
    have ho5 := ho4.kept hg5 (by cases v4.ownBlock <;> simp)
    have hgE := grown_up hgD hg5
    have hs5 := hg5.size
    have HB0 : Hid (w1.heap.size ≤ w5.heap.size) := by show _ ≤ _; omega
    have Hl5 := hide (show (be x.e.toNat 1 ++ encO x.v ++ be x.sl.toNat 4).length ≤ 18 by rw [List.length_append (bs := be x.sl.toNat 4), be_len]; have := Hl3.out; omega)
    obtain ⟨L5, HL5⟩ : ∃ L, Hid (be x.e.toNat 1 ++ encO x.v ++ be x.sl.toNat 4 = L) := ⟨_, rfl⟩
    rw [HL5.out] at ho5 Hl5
    obtain ⟨bs, Hbs⟩ : ∃ bs, Hid (w1.heap.size = bs) := ⟨_, rfl⟩
    rw [Hbs.out] at ho5 HB0
    have Hbw : Hid (w.heap.size ≤ bs) := by show _ ≤ _; rw [← Hbs.out]; omega
    clear d0 d1 d2 d3 d4 d5 d6 d7 hb1 hb2 hb3 hb4 hgA hgB hgC hgD hs2 hs3 hs4 hs5 ho2 ho3 ho4 hf2 hf3 hf4 hg1 hg5 hn2 hn3 hgs hbl
    go_wp2_with fail
    go_loopw [4, 25] (fun b i wr => ∃ k : Nat, k ≤ 3 ∧ i = .int .i64 k ∧ Own 5 wr bs b (L5 ++ cntB x k) ∧ w.grownBy wr none ∧ bs ≤ wr.heap.size) (fun _ i _ => 3 - (intOf i).toNat)
    case atStart => exact ⟨0, by omega, rfl, by rw [cntB_0, List.append_nil]; exact ho5, hgE, HB0.out⟩
    case round =>
      obtain ⟨k, hk3, rfl, hO, hg, hbw⟩ := hrel
      by_cases hlt : k < 3
      · have hix := run_idx9 x k hlt wr
        have Hw := hide (Hfw.out k)
        have Hst := hide (cntB_step x k hlt)
        have Hln : Hid ((L5 ++ cntB x k).length ≤ 140737488355300) := by
          show _ ≤ _
          rw [List.length_append]
          have h1 := cntB_len x k
          have h2 := Hl5.out
          omega
        generalize x.fl k = o at *
        go_wp2_with (go_at_call 34; rw [Hw.out.1]; refine (num_any _ _ o.toNat 1 bs _ Hw.out.2 hO hbw Hln.out).mono ?_; rintro e w6 ⟨v6, rfl, ho6, hf6⟩)
        go_roundw
        case rel =>
          refine ⟨k + 1, by omega, by go_num, ?_, grown_new hg hf6.1 (fun j hj => by have := (hO.lt j hj).1; have := Hbw.out; omega), by have := hf6.1.size; omega⟩
          rw [Hst.out, ← List.append_assoc]
          rw [wid1] at ho6
          exact ho6
        case measure => simp [intOf]; omega
      · have hk : k = 3 := by omega
        subst hk
        have hcv := run_convert_own wr 60 9 5 Try.underlying60 Try.underlying5 Try.underlying9 hO
        have HE : Hid ((⟨(L5 ++ cntB x 3).toArray⟩ : ByteArray) = mkB (enc9 x)) := by
          show _ = _
          rw [← HL5.out]
          show mkB _ = mkB _
          rw [enc9_cnt]
        go_wp2
        go_ret2
        rw [HE.out]
        exact ⟨rfl, hg⟩
end Go.Proofs.Ythopmlgfklhagaa
