/- Contracts, over the turned program: code.mayBe tells whether an instruction may be, code.valueMayBe whether a Const may have a value. Conditions: those that each theorem states. -/
import Derived.Test.YtpoahegccjgnjaaGreatDoorIOp
namespace Go.Proofs.YtpoahegccjgnjaaGreatDoor
open Go.RowKit
set_option linter.unusedVariables false

theorem tup_one (w : World) (x : V) (e : TypeId) (g : Nat) (hg : w.heap.size = g) : Tup (w.alloc (.cells #[.int .i64 x.k, .int .i64 x.n, .string x.s] e)) (.slice (some ⟨g, 0, none⟩) 1 1) [x] := by
  subst hg
  refine ⟨some ⟨w.heap.size, 0, none⟩, 1, rfl, Nat.le_refl _, by decide, fun i hi => ?_⟩
  have : i = 0 := by simp at hi; omega
  subst this
  refine ⟨w.heap.size, 0, rfl, by simp, ?_, ?_, ?_⟩ <;> simp
theorem wrE_one (x : V) : (wrE [x] == 0) = okV x := by
  unfold wrE
  by_cases h : okV x = true
  · simp [h]
  · simp [h]

set_option maxRecDepth 100000 in
set_option maxHeartbeats 400000 in
theorem valueMayBe_any (x : V) (w : World) (hx : x.wf) :
    Calls Tryz.prog 111 #[x.val] w fun e w' => e = .returned (.bool (okC x)) ∧ w.grownBy w' none := by
  obtain ⟨k, n, s⟩ := x
  have s0 := hx.s0
  dsimp only at s0
  unfold V.val
  dsimp only
  by_cases hl : (10 : Int) < (s.size : Int)
  · have e1 : okC ⟨k, n, s⟩ = false := by
      unfold okC
      rw [decide_eq_false (by dsimp only; omega), Bool.and_false]
    rw [e1]
    clear e1
    go_enter Tryz.func111, Tryz.ntmps111
    go_wp2
    go_ret
    exact ⟨rfl, World.grownBy_alloc _ _ _⟩
  · have e1 : okC ⟨k, n, s⟩ = okV ⟨k, n, s⟩ := by
      unfold okC
      rw [decide_eq_true (by dsimp only; omega), Bool.and_true]
    rw [e1]
    have hT := tup_one (w.alloc (.cells #[.int .i64 k, .int .i64 n, .string s] 31)) ⟨k, n, s⟩ 31 (w.heap.size + 1) (by simp)
    have Hb : Hid ((encL [⟨k, n, s⟩]).length ≤ 1099511627776) := by
      have h1 := esc_len s.data.toList
      have h2 : s.data.toList.length = s.size := by rw [Array.length_toList]; rfl
      show _ ≤ _
      simp only [encL, List.flatMap_cons, List.flatMap_nil, List.append_nil]
      unfold encV
      dsimp only
      split
      · simp only [List.length_cons, be_len]; omega
      · simp only [encT, List.length_cons, List.length_append, List.length_nil]; omega
    have He := hide (wrE_one ⟨k, n, s⟩)
    clear e1
    go_enter Tryz.func111, Tryz.ntmps111
    go_wp2_with (go_at_call 50; refine (write_any _ [⟨k, n, s⟩] _ hT (by simpa using hx) Hb.out).mono ?_; rintro e w1 ⟨rfl, hg1⟩)
    go_ret
    rw [He.out]
    exact ⟨rfl, grown_trans (grown_trans (World.grownBy_alloc _ _ _) (World.grownBy_alloc _ _ _) (.inl rfl)) hg1 (.inl rfl)⟩

/-- Operand number k. -/
def In.fl (x : In) (k : Nat) : Int := if k = 0 then x.a else if k = 1 then x.b else x.c
theorem In.fl_ir (x : In) (h : x.wf) (k : Nat) : ir (x.fl k) := by
  unfold In.fl
  split
  · exact h.2.2.1
  · split
    · exact h.2.2.2.1
    · exact h.2.2.2.2
theorem In.fl_at (x : In) (k : Nat) (h : k < 3) : (#[Value.int .i64 x.a, .int .i64 x.b, .int .i64 x.c] : Array Value)[k]? = some (.int .i64 (x.fl k)) := by
  rcases (by omega : k = 0 ∨ k = 1 ∨ k = 2) with rfl | rfl | rfl <;> rfl

set_option maxRecDepth 100000 in
theorem run_idx3 (x : In) (k : Nat) (h : k < 3) (w : World) : (Instr.index 125 (.agg #[.int .i64 x.a, .int .i64 x.b, .int .i64 x.c]) (.int .i64 (k : Int))).run Tryz.prog w = .ok (.int .i64 (x.fl k)) w := by
  rcases (by omega : k = 0 ∨ k = 1 ∨ k = 2) with rfl | rfl | rfl
  · go_simp; rfl
  · go_simp; rfl
  · go_simp; rfl
theorem fit_not (x : In) (k : Nat) (hk : k < 3) (h : fitO (nOps x.op) k (x.fl k) = false) : okI x = false := by
  cases ho : okI x with
  | false => rfl
  | true =>
    obtain ⟨_, h2, h3, h4, _⟩ := okI_parts ho
    rcases (by omega : k = 0 ∨ k = 1 ∨ k = 2) with rfl | rfl | rfl
    · exact absurd h (by show ¬ fitO _ 0 x.a = false; rw [h2]; decide)
    · exact absurd h (by show ¬ fitO _ 1 x.b = false; rw [h3]; decide)
    · exact absurd h (by show ¬ fitO _ 2 x.c = false; rw [h4]; decide)
theorem okI_fits (x : In) (ho : opOk x.op = true) (h : ∀ k, k < 3 → fitO (nOps x.op) k (x.fl k) = true) : okI x = if x.op = 1 then okC x.v else zeroB x.v := by
  have h0 : fitO (nOps x.op) 0 x.a = true := h 0 (by omega)
  have h1 : fitO (nOps x.op) 1 x.b = true := h 1 (by omega)
  have h2 : fitO (nOps x.op) 2 x.c = true := h 2 (by omega)
  unfold okI
  rw [ho, h0, h1, h2]
  simp

set_option maxRecDepth 100000 in
set_option maxHeartbeats 1000000 in
theorem imayBe_any (x : In) (w : World) (hx : x.wf) (hG : Glob w) :
    Calls Tryz.prog 100 #[x.val] w fun e w' => e = .returned (.bool (okI x)) ∧ w.grownBy w' none := by
  have hb := Ib.new w x
  have hg0 := World.grownBy_alloc w (.cells #[.int .i64 x.op, .int .i64 x.a, .int .i64 x.b, .int .i64 x.c, .int .i64 x.v.k, .int .i64 x.v.n, .string x.v.s] 44) none
  have hG0 := hG.keptN hg0
  by_cases ho : opOk x.op = true
  · obtain ⟨B, HB⟩ : ∃ B, Hid (okI x = B) := ⟨_, rfl⟩
    rw [HB.out]
    have e1 : nOpI x.op = (nOps x.op : Int) := by simp [nOpI, ho]
    have Hf := hide (fields_any x)
    have hv := hx.1
    obtain ⟨nn, HN⟩ : ∃ nn : Nat, Hid (nOps x.op = nn) := ⟨_, rfl⟩
    have hn3 : nn ≤ 3 := by have := HN.out; have := nOps_le x.op; omega
    unfold In.val
    go_enter Tryz.func100, Tryz.ntmps100
    go_wp2_with fail
    refine (operands_any x.op _ hG0).mono ?_
    rintro e w1 ⟨rfl, hw1⟩
    obtain rfl := hw1.symm
    rw [e1, ho, HN.out]
    obtain ⟨c0, c1, c2, c3, c4, c5, c6⟩ := hb.cs
    go_wp2_with fail
    refine (Hf.out _).mono ?_
    rintro e w2 ⟨rfl, hg2⟩
    have hb2 := hb.kept hg2 (by simp)
    have hgg := grown_trans hg0 hg2 (.inl rfl)
    clear c0 c1 c2 c3 c4 c5 c6 hb hg0 hG0 hg2 Hf e1
    obtain ⟨c0, c1, c2, c3, c4, c5, c6⟩ := hb2.cs
    go_wp2_with fail
    go_loop [17] (fun i => ∃ k : Nat, k ≤ 3 ∧ i = .int .i64 k ∧ Hid (∀ j, j < k → fitO nn j (x.fl j) = true)) (fun i => 3 - (intOf i).toNat)
    case atStart => exact ⟨0, by omega, rfl, fun j hj => by omega⟩
    case round =>
      obtain ⟨k, hk, rfl, Hk⟩ := hrel
      by_cases hlt : k < 3
      · have hix := run_idx3 x k hlt w2
        have hir := x.fl_ir hx k
        have Hw := hide (n2u_wrap (x.fl k))
        have HF := hide (fits_byte (x.fl k) hir.1 hir.2)
        have Hn := hide (fit_not x k hlt)
        have Hfit : Hid (fitO nn k (x.fl k) = (byteOk (x.fl k) && (decide (k < nn) || x.fl k == 0))) := rfl
        have Hstep : Hid (fitO nn k (x.fl k) = true → ∀ j, j < k + 1 → fitO nn j (x.fl j) = true) := by
          intro h j hj
          rcases Nat.lt_or_ge j k with h1 | h1
          · exact Hk.out j h1
          · obtain rfl : j = k := by omega
            exact h
        clear hir
        generalize x.fl k = o at *
        by_cases a1 : (nn : Int) ≤ (k : Int)
        · by_cases a2 : o = 0
          · have Hok : Hid (fitO nn k o = true) := by show _ = _; rw [Hfit.out, a2]; simp [byteOk]
            have a3 : byteOk o = true := by rw [a2]; rfl
            have a2' : (o != 0) = false := by simp [a2]
            clear a2
            go_wp2_with (go_at_call 110; rw [Hw.out]; refine (HF.out _).mono ?_; rintro e w3 ⟨rfl, hw3⟩; obtain rfl := hw3.symm)
            go_round
            case rel => exact ⟨k + 1, by omega, by go_num, Hstep.out Hok.out⟩
            case measure => simp [intOf]; omega
          · have a2' : (o != 0) = true := by simp [a2]
            have Hbad : Hid (B = false) := by
              show _ = _
              rw [← HB.out]
              refine Hn.out ?_
              rw [HN.out, Hfit.out]
              simp [a2]
              omega
            clear a2
            go_wp2
            go_ret
            rw [Hbad.out]
            exact ⟨rfl, hgg⟩
        · by_cases a3 : byteOk o = true
          · have Hok : Hid (fitO nn k o = true) := by show _ = _; rw [Hfit.out, a3]; simp; omega
            go_wp2_with (go_at_call 110; rw [Hw.out]; refine (HF.out _).mono ?_; rintro e w3 ⟨rfl, hw3⟩; obtain rfl := hw3.symm)
            go_round
            case rel => exact ⟨k + 1, by omega, by go_num, Hstep.out Hok.out⟩
            case measure => simp [intOf]; omega
          · have a3' : byteOk o = false := by simpa using a3
            have Hbad : Hid (B = false) := by
              show _ = _
              rw [← HB.out]
              refine Hn.out ?_
              rw [HN.out, Hfit.out, a3']
              rfl
            clear a3
            go_wp2_with (go_at_call 110; rw [Hw.out]; refine (HF.out _).mono ?_; rintro e w3 ⟨rfl, hw3⟩; obtain rfl := hw3.symm)
            go_ret
            rw [Hbad.out]
            exact ⟨rfl, hgg⟩
      · have Hall : Hid (B = if x.op = 1 then okC x.v else zeroB x.v) := by
          show _ = _
          rw [← HB.out]
          exact okI_fits x ho (fun j hj => by rw [HN.out]; exact Hk.out j (by omega))
        by_cases h1 : x.op = 1
        · have Hb : Hid (B = okC x.v) := by have := Hall.out; rw [if_pos h1] at this; exact this
          have h1' : (x.op != 1) = false := by simp [h1]
          clear h1 Hall
          go_wp2_with (go_at_call 111; refine (valueMayBe_any x.v _ hv).mono ?_; rintro e w3 ⟨rfl, hg3⟩)
          go_ret
          rw [Hb.out]
          exact ⟨rfl, grown_trans hgg hg3 (.inl rfl)⟩
        · have Hb : Hid (B = zeroB x.v) := by have := Hall.out; rw [if_neg h1] at this; exact this
          have h1' : (x.op != 1) = true := by simp [h1]
          obtain ⟨V, HV⟩ : ∃ V, Hid (x.v = V) := ⟨_, rfl⟩
          rw [HV.out] at c4 c5 c6 Hb
          clear h1 Hall
          obtain ⟨k', n', s'⟩ := V
          dsimp only at c4 c5 c6
          by_cases b1 : k' = 0
          · subst b1
            by_cases b2 : n' = 0
            · subst b2
              cases b3 : s'.toList.isEmpty with
              | true =>
                have Hz : Hid (B = true) := by show _ = _; rw [Hb.out]; unfold zeroB; rw [b3]; rfl
                have b3' : (s'.toList == []) = true := by simpa using b3
                go_wp2
                go_ret
                rw [Hz.out]
                exact ⟨rfl, hgg⟩
              | false =>
                have Hz : Hid (B = false) := by show _ = _; rw [Hb.out]; unfold zeroB; rw [b3]; rfl
                have b3' : (s'.toList == []) = false := by rw [beq_eq_false_iff_ne]; intro h; rw [h] at b3; cases b3
                go_wp2
                go_ret
                rw [Hz.out]
                exact ⟨rfl, hgg⟩
            · have Hz : Hid (B = false) := by show _ = _; rw [Hb.out]; unfold zeroB; simp [b2]
              have b2' : (n' == 0) = false := by simp [b2]
              clear b2
              go_wp2
              go_ret
              rw [Hz.out]
              exact ⟨rfl, hgg⟩
          · have Hz : Hid (B = false) := by show _ = _; rw [Hb.out]; unfold zeroB; simp [b1]
            have b1' : (k' == 0) = false := by simp [b1]
            clear b1
            go_wp2
            go_ret
            rw [Hz.out]
            exact ⟨rfl, hgg⟩
  · have ho' : opOk x.op = false := by simpa using ho
    have e1 : nOpI x.op = 0 := by simp [nOpI, ho']
    have Hb : Hid (okI x = false) := by show _ = _; unfold okI; rw [ho']; rfl
    unfold In.val
    rw [Hb.out]
    go_enter Tryz.func100, Tryz.ntmps100
    go_wp2_with fail
    refine (operands_any x.op _ hG0).mono ?_
    rintro e w1 ⟨rfl, hw1⟩
    obtain rfl := hw1.symm
    rw [e1, ho']
    go_wp2
    go_ret
    exact ⟨rfl, hg0⟩

end Go.Proofs.YtpoahegccjgnjaaGreatDoor
