/- Contracts, over the turned program: the reference's Operands, Right, one and Write of instructions answer as the plain words say. Conditions: those that each theorem states. -/
import Derived.Test.YtpoahegccjgnjaaGreatDoorIMay
import Derived.Test.YtpoahegccjgnjaaGreatDoorKRef
import Derived.Test.YtpoahegccjgnjaaGreatDoorRef
namespace Go.Proofs.YtpoahegccjgnjaaGreatDoor
open Go.RowKit
set_option linter.unusedVariables false

set_option maxRecDepth 100000 in
set_option maxHeartbeats 1000000 in
theorem roperands_any (op : Int) (w : World) :
    Calls Tryz.prog 77 #[.int .i64 op] w fun e w' => e = .returned (.tuple #[.int .i64 (nOpI op), .bool (opOk op)]) ∧ w' = w := by
  by_cases h : 1 ≤ op ∧ op ≤ 19
  · rcases (by omega : op = 1 ∨ op = 2 ∨ op = 3 ∨ op = 4 ∨ op = 5 ∨ op = 6 ∨ op = 7 ∨ op = 8 ∨ op = 9 ∨ op = 10 ∨ op = 11 ∨ op = 12 ∨ op = 13 ∨ op = 14 ∨ op = 15 ∨ op = 16 ∨ op = 17 ∨ op = 18 ∨ op = 19) with rfl | rfl | rfl | rfl | rfl | rfl | rfl | rfl | rfl | rfl | rfl | rfl | rfl | rfl | rfl | rfl | rfl | rfl | rfl
    all_goals
      go_enter Tryz.func77, Tryz.ntmps77
      go_wp2
      go_ret2
      exact ⟨rfl, rfl⟩
  · have e1 : opOk op = false := decide_eq_false h
    have e2 : nOpI op = 0 := by simp [nOpI, e1]
    rw [e1, e2]
    have t1 : (op == 1) = false := by rw [beq_eq_false_iff_ne]; omega
    have t2 : (op == 2) = false := by rw [beq_eq_false_iff_ne]; omega
    have t3 : (op == 3) = false := by rw [beq_eq_false_iff_ne]; omega
    have t4 : (op == 4) = false := by rw [beq_eq_false_iff_ne]; omega
    have t5 : (op == 5) = false := by rw [beq_eq_false_iff_ne]; omega
    have t6 : (op == 6) = false := by rw [beq_eq_false_iff_ne]; omega
    have t7 : (op == 7) = false := by rw [beq_eq_false_iff_ne]; omega
    have t8 : (op == 8) = false := by rw [beq_eq_false_iff_ne]; omega
    have t9 : (op == 9) = false := by rw [beq_eq_false_iff_ne]; omega
    have t10 : (op == 10) = false := by rw [beq_eq_false_iff_ne]; omega
    have t11 : (op == 11) = false := by rw [beq_eq_false_iff_ne]; omega
    have t12 : (op == 12) = false := by rw [beq_eq_false_iff_ne]; omega
    have t13 : (op == 13) = false := by rw [beq_eq_false_iff_ne]; omega
    have t14 : (op == 14) = false := by rw [beq_eq_false_iff_ne]; omega
    have t15 : (op == 15) = false := by rw [beq_eq_false_iff_ne]; omega
    have t16 : (op == 16) = false := by rw [beq_eq_false_iff_ne]; omega
    have t17 : (op == 17) = false := by rw [beq_eq_false_iff_ne]; omega
    have t18 : (op == 18) = false := by rw [beq_eq_false_iff_ne]; omega
    have t19 : (op == 19) = false := by rw [beq_eq_false_iff_ne]; omega
    clear e1 e2 h
    go_enter Tryz.func77, Tryz.ntmps77
    go_wp2
    go_ret2
    exact ⟨rfl, rfl⟩

/-- The three operands, as a slice. -/
theorem ab_new (w : World) (x y z : Int) (e : TypeId) (g : Nat) (hg : w.heap.size = g) : (w.alloc (.cells #[.int .i64 x, .int .i64 y, .int .i64 z] e)).cell? ⟨g, 0, none⟩ = some (.int .i64 x) ∧ (w.alloc (.cells #[.int .i64 x, .int .i64 y, .int .i64 z] e)).cell? ⟨g, 1, none⟩ = some (.int .i64 y) ∧ (w.alloc (.cells #[.int .i64 x, .int .i64 y, .int .i64 z] e)).cell? ⟨g, 2, none⟩ = some (.int .i64 z) := by
  subst hg
  refine ⟨?_, ?_, ?_⟩ <;> simp
theorem fl_cell {w : World} {g : Nat} {x : In} (h : w.cell? ⟨g, 0, none⟩ = some (.int .i64 x.a) ∧ w.cell? ⟨g, 1, none⟩ = some (.int .i64 x.b) ∧ w.cell? ⟨g, 2, none⟩ = some (.int .i64 x.c)) (k : Nat) (hk : k < 3) : w.cell? ⟨g, k, none⟩ = some (.int .i64 (x.fl k)) := by
  rcases (by omega : k = 0 ∨ k = 1 ∨ k = 2) with rfl | rfl | rfl
  · exact h.1
  · exact h.2.1
  · exact h.2.2
def fitZ (N : Int) (k : Nat) (o : Int) : Bool := byteOk o && (decide ((k : Int) < N) || o == 0)
theorem fitZ_eq (n k : Nat) (o : Int) : fitZ (n : Int) k o = fitO n k o := by
  unfold fitZ fitO
  congr 2
  rw [decide_eq_decide]
  omega
/-- The plain test, in the document's order. -/
theorem okI_bad (x : In) (ho : opOk x.op = false) : okI x = false := by unfold okI; rw [ho]; rfl

set_option maxRecDepth 100000 in
set_option maxHeartbeats 1000000 in
theorem rright_any (x : In) (w : World) (hx : x.wf) :
    Calls Tryz.prog 51 #[x.val] w fun e w' => e = .returned (.bool (okI x)) ∧ w.grownBy w' none := by
  obtain ⟨B, HB⟩ : ∃ B, Hid (okI x = B) := ⟨_, rfl⟩
  rw [HB.out]
  have hb := Ib.new w x
  have hg0 := World.grownBy_alloc w (.cells #[.int .i64 x.op, .int .i64 x.a, .int .i64 x.b, .int .i64 x.c, .int .i64 x.v.k, .int .i64 x.v.n, .string x.v.s] 44) none
  have hg1 := World.grownBy_alloc (w.alloc (.cells #[.int .i64 x.op, .int .i64 x.a, .int .i64 x.b, .int .i64 x.c, .int .i64 x.v.k, .int .i64 x.v.n, .string x.v.s] 44)) (.cells #[.int .i64 x.a, .int .i64 x.b, .int .i64 x.c] 3) none
  have hl := ab_new (w.alloc (.cells #[.int .i64 x.op, .int .i64 x.a, .int .i64 x.b, .int .i64 x.c, .int .i64 x.v.k, .int .i64 x.v.n, .string x.v.s] 44)) x.a x.b x.c 3 (w.heap.size + 1) (by simp)
  have hb2 := hb.kept hg1 (by simp)
  have hgg := grown_trans hg0 hg1 (.inl rfl)
  obtain ⟨N, HN⟩ : ∃ N, Hid (nOpI x.op = N) := ⟨_, rfl⟩
  obtain ⟨O, HO⟩ : ∃ O, Hid (opOk x.op = O) := ⟨_, rfl⟩
  have Hir := hide (x.fl_ir hx)
  unfold In.val
  go_enter Tryz.func51, Tryz.ntmps51
  go_wp2_with fail
  refine (roperands_any x.op _).mono ?_
  rintro e w1 ⟨rfl, hw1⟩
  obtain rfl := hw1.symm
  rw [HN.out, HO.out]
  obtain ⟨c0, c1, c2, c3, c4, c5, c6⟩ := hb.cs
  go_wp2_with fail
  have Hfl := hide (fun k hk => fl_cell hl k hk)
  have Hbad : Hid (∀ k, k < 3 → fitZ N k (x.fl k) = false → B = false) := by
    intro k hk h
    rw [← HB.out]
    cases ho : opOk x.op with
    | false => exact okI_bad x ho
    | true =>
      refine fit_not x k hk ?_
      rw [← HN.out] at h
      unfold nOpI at h
      rw [ho, if_pos rfl, fitZ_eq] at h
      exact h
  have Hgood : Hid ((∀ k, k < 3 → fitZ N k (x.fl k) = true) → O = true → B = if x.op = 1 then okC x.v else zeroB x.v) := by
    intro h ho
    rw [← HB.out]
    rw [← HO.out] at ho
    refine okI_fits x ho (fun k hk => ?_)
    have h1 := h k hk
    rw [← HN.out] at h1
    unfold nOpI at h1
    rw [ho, if_pos rfl, fitZ_eq] at h1
    exact h1
  have Hno : Hid (O = false → B = false) := by
    intro h
    rw [← HB.out]
    exact okI_bad x (HO.out.trans h)
  have hv := hx.1
  clear hb hg0 hg1 hl c0 c1 c2 c3 c4 c5 c6 HN HB HO hx
  obtain ⟨c0, c1, c2, c3, c4, c5, c6⟩ := hb2.cs
  clear hb2
  generalize (w.alloc (.cells #[.int .i64 x.op, .int .i64 x.a, .int .i64 x.b, .int .i64 x.c, .int .i64 x.v.k, .int .i64 x.v.n, .string x.v.s] 44)).alloc (.cells #[.int .i64 x.a, .int .i64 x.b, .int .i64 x.c] 3) = W at *
  go_loop [6] (fun i => ∃ k : Nat, k ≤ 3 ∧ i = .int .i64 k ∧ Hid (∀ j, j < k → fitZ N j (x.fl j) = true)) (fun i => 3 - (intOf i).toNat)
  case atStart => exact ⟨0, by omega, rfl, fun j hj => by omega⟩
  case round =>
    obtain ⟨k, hk, rfl, Hk⟩ := hrel
    by_cases hlt : k < 3
    · have hcell := Hfl.out k hlt
      have Hfit : Hid (fitZ N k (x.fl k) = (byteOk (x.fl k) && (decide ((k : Int) < N) || x.fl k == 0))) := rfl
      have Hb1 := hide (Hbad.out k hlt)
      have Hstep : Hid (fitZ N k (x.fl k) = true → ∀ j, j < k + 1 → fitZ N j (x.fl j) = true) := by
        intro h j hj
        rcases Nat.lt_or_ge j k with h1 | h1
        · exact Hk.out j h1
        · obtain rfl : j = k := by omega
          exact h
      generalize x.fl k = o at *
      by_cases a1 : o < 0
      · have Hz : Hid (B = false) := Hb1.out (by rw [Hfit.out]; unfold byteOk; rw [decide_eq_false (by omega)]; rfl)
        go_wp2
        go_ret
        rw [Hz.out]
        exact ⟨rfl, hgg⟩
      · by_cases a2 : 255 < o
        · have Hz : Hid (B = false) := Hb1.out (by rw [Hfit.out]; unfold byteOk; rw [decide_eq_false (by omega)]; rfl)
          go_wp2
          go_ret
          rw [Hz.out]
          exact ⟨rfl, hgg⟩
        · have a3 : byteOk o = true := decide_eq_true (by omega)
          by_cases a4 : N ≤ (k : Int)
          · by_cases a5 : o = 0
            · have Hok : Hid (fitZ N k o = true) := by show _ = _; rw [Hfit.out, a3, a5]; simp
              have a5' : (o != 0) = false := by simp [a5]
              clear a5
              go_wp2_with fail
              go_round
              case rel => exact ⟨k + 1, by omega, by go_num, Hstep.out Hok.out⟩
              case measure => simp [intOf]; omega
            · have Hz : Hid (B = false) := Hb1.out (by rw [Hfit.out, decide_eq_false (by omega)]; simp [a5])
              have a5' : (o != 0) = true := by simp [a5]
              clear a5
              go_wp2
              go_ret
              rw [Hz.out]
              exact ⟨rfl, hgg⟩
          · have Hok : Hid (fitZ N k o = true) := by show _ = _; rw [Hfit.out, a3, decide_eq_true (by omega)]; rfl
            go_wp2_with fail
            go_round
            case rel => exact ⟨k + 1, by omega, by go_num, Hstep.out Hok.out⟩
            case measure => simp [intOf]; omega
    · have Hall := hide (Hgood.out (fun j hj => Hk.out j (by omega)))
      by_cases h1 : x.op = 1
      · have h1' : (x.op != 1) = false := by simp [h1]
        cases O with
        | false =>
          have Hz : Hid (B = false) := Hno.out rfl
          clear h1 Hall
          go_wp2
          go_ret
          rw [Hz.out]
          exact ⟨rfl, hgg⟩
        | true =>
          have Hb : Hid (B = okC x.v) := by have := Hall.out rfl; rw [if_pos h1] at this; exact this
          clear h1 Hall
          cases hok : okV x.v with
          | false =>
            have Hz : Hid (B = false) := by show _ = _; rw [Hb.out]; unfold okC; rw [hok]; rfl
            go_wp2_with (go_at_call 55; refine (right_any x.v _).mono ?_; rintro e w3 ⟨rfl, hg3⟩; rw [hok])
            go_ret
            rw [Hz.out]
            exact ⟨rfl, grown_trans hgg hg3 (.inl rfl)⟩
          | true =>
            have Hz : Hid (B = decide ((x.v.s.size : Int) ≤ 10)) := by show _ = _; rw [Hb.out]; unfold okC; rw [hok, Bool.true_and, decide_eq_decide]; omega
            go_wp2_with (go_at_call 55; refine (right_any x.v _).mono ?_; rintro e w3 ⟨rfl, hg3⟩; rw [hok]; have c6' : w3.cell? ⟨w.heap.size, 6, none⟩ = some (.string x.v.s) := (cell_same (hg3.block w.heap.size (lt_of_cell c6) (by simp)) 6).trans c6)
            go_ret
            rw [Hz.out]
            exact ⟨rfl, grown_trans hgg hg3 (.inl rfl)⟩
      · have h1' : (x.op != 1) = true := by simp [h1]
        cases O with
        | false =>
          have Hz : Hid (B = false) := Hno.out rfl
          clear h1 Hall
          go_wp2
          go_ret
          rw [Hz.out]
          exact ⟨rfl, hgg⟩
        | true =>
          have Hb : Hid (B = zeroB x.v) := by have := Hall.out rfl; rw [if_neg h1] at this; exact this
          clear Hall h1
          obtain ⟨V, HV⟩ : ∃ V, Hid (x.v = V) := ⟨_, rfl⟩
          rw [HV.out] at c4 c5 c6 Hb
          obtain ⟨k', n', s'⟩ := V
          dsimp only at c4 c5 c6
          by_cases b1 : k' = 0
          · subst b1
            by_cases b2 : n' = 0
            · subst b2
              cases b3 : s'.toList.isEmpty with
              | true =>
                have Hz : Hid (B = true) := by show _ = _; rw [Hb.out]; unfold zeroB; rw [b3]; rfl
                have b3' : (s'.toList == []) = true := by simpa using b3
                go_wp2
                go_ret
                rw [Hz.out]
                exact ⟨rfl, hgg⟩
              | false =>
                have Hz : Hid (B = false) := by show _ = _; rw [Hb.out]; unfold zeroB; rw [b3]; rfl
                have b3' : (s'.toList == []) = false := by rw [beq_eq_false_iff_ne]; intro h; rw [h] at b3; cases b3
                go_wp2
                go_ret
                rw [Hz.out]
                exact ⟨rfl, hgg⟩
            · have Hz : Hid (B = false) := by show _ = _; rw [Hb.out]; unfold zeroB; simp [b2]
              have b2' : (n' == 0) = false := by simp [b2]
              clear b2
              go_wp2
              go_ret
              rw [Hz.out]
              exact ⟨rfl, hgg⟩
          · have Hz : Hid (B = false) := by show _ = _; rw [Hb.out]; unfold zeroB; simp [b1]
            have b1' : (k' == 0) = false := by simp [b1]
            clear b1
            go_wp2
            go_ret
            rw [Hz.out]
            exact ⟨rfl, hgg⟩

end Go.Proofs.YtpoahegccjgnjaaGreatDoor
