/- Contracts, over the turned program: whether a value may be a register's, a value's bytes. Conditions: those that each theorem states. -/
import Derived.Test.YtamgnpmkmlhadaaEDefs
import Derived.Test.YtamgnpmkmlhadaaKWrite
namespace Go.Proofs.Ytamgnpmkmlhadaa
open Go.RowKit
set_option linter.unusedVariables false

set_option maxRecDepth 100000 in
set_option maxHeartbeats 400000 in
theorem evMayBe_any (x : V) (w : World) (hx : x.wf) :
    Calls Try.prog 40 #[x.val] w fun e w' => e = .returned (.bool (okC x)) ∧ w.grownBy w' none := by
  obtain ⟨k, n, s⟩ := x
  have s0 := hx.s0
  dsimp only at s0
  unfold V.val
  dsimp only
  by_cases hl : (10 : Int) < (s.size : Int)
  · have e1 : okC ⟨k, n, s⟩ = false := by
      unfold okC
      rw [decide_eq_false (by dsimp only; omega), Bool.and_false]
    rw [e1]
    clear e1
    go_enter Try.func40, Try.ntmps40
    go_wp2
    go_ret
    exact ⟨rfl, World.grownBy_alloc _ _ _⟩
  · have e1 : okC ⟨k, n, s⟩ = okV ⟨k, n, s⟩ := by
      unfold okC
      rw [decide_eq_true (by dsimp only; omega), Bool.and_true]
    rw [e1]
    have hT := tup_one9 (w.alloc (.cells #[.int .i64 k, .int .i64 n, .string s] 24)) ⟨k, n, s⟩ 24 (w.heap.size + 1) (by simp)
    have Hb : Hid ((encL [⟨k, n, s⟩]).length ≤ 1099511627776) := by
      have h1 := esc_len s.data.toList
      have h2 : s.data.toList.length = s.size := by rw [Array.length_toList]; rfl
      show _ ≤ _
      simp only [encL, List.flatMap_cons, List.flatMap_nil, List.append_nil]
      unfold encV
      dsimp only
      split
      · simp only [List.length_cons, be_len]; omega
      · simp only [encT, List.length_cons, List.length_append, List.length_nil]; omega
    have He := hide (wrE_one9 ⟨k, n, s⟩)
    clear e1
    go_enter Try.func40, Try.ntmps40
    go_wp2_with (go_at_call 54; refine (write_any _ [⟨k, n, s⟩] _ hT (by simpa using hx) Hb.out).mono ?_; rintro e w1 ⟨rfl, hg1⟩)
    go_ret
    rw [He.out]
    exact ⟨rfl, grown_trans (grown_trans (World.grownBy_alloc _ _ _) (World.grownBy_alloc _ _ _) (.inl rfl)) hg1 (.inl rfl)⟩

set_option maxRecDepth 100000 in
set_option maxHeartbeats 400000 in
theorem ewriteValue_any (v : Value) (l : List UInt8) (x : V) (base : Nat) (w : World) (hx : x.wf) (hk : okV x = true) (hown : Own 5 w base v l) (hb : base ≤ w.heap.size) (hl : l.length ≤ 1099511627776) :
    Calls Try.prog 41 #[v, x.val] w fun e w' => ∃ v', e = .returned v' ∧ Own 5 w' base v' (l ++ encC x) ∧ Fr w v w' v' := by
  obtain ⟨k, n, s⟩ := x
  obtain ⟨n0, n1, s0⟩ := hx
  dsimp only at n0 n1 s0
  unfold V.val
  dsimp only
  have Hl0 : Hid (l.length ≤ 140737488355300) := by show _ ≤ _; omega
  rcases (okV_iff _).1 hk with ⟨h1, h2⟩ | ⟨h1, h2⟩
  · dsimp only at h1 h2
    subst h1
    have HU := hide (n2u_wr9 n)
    have HU2 := hide (n2u_lt9 n)
    have Hl1 : Hid ((l ++ [UInt8.ofNat 1]).length ≤ 140737488355300) := by show _ ≤ _; simp; omega
    have hV := Vb.new w ⟨1, n, s⟩
    have hvne : ∀ k, v.ownBlock = some k → k ≠ w.heap.size := fun k hk => by have := (hown.lt k hk).2; omega
    have hE : encC ⟨1, n, s⟩ = [1] ++ be (n2u n) 8 := rfl
    rw [hE]
    clear hl n0 n1 hk hE
    go_enter Try.func41, Try.ntmps41
    go_wp2_with fail
    refine (num1 v l 1 base _ (by omega) (hown.alloc _) (by simp; omega) Hl0.out).mono ?_
    rintro e w1 ⟨v1, rfl, ho1, hf1⟩
    have hV1 := hV.kept hf1.1 (by intro h; exact hvne _ h.symm rfl)
    have c0 := hV1.c0
    have c1 := hV1.c1
    dsimp only at c0 c1
    clear hV hV1
    go_wp2_with fail
    rw [HU.out]
    refine (num_any v1 _ (n2u n) 8 base w1 HU2.out ho1 (by have := hf1.1.size; simp at this; omega) Hl1.out).mono ?_
    rintro e w2 ⟨v2, rfl, ho2, hf2⟩
    go_wp2
    go_ret
    refine ⟨_, rfl, ?_, ((Fr.refl w v).alloc _).trans (hf1.trans hf2)⟩
    rw [wid8] at ho2
    simpa using ho2
  · dsimp only at h1 h2
    subst h1 h2
    have HL : Hid ((l ++ [UInt8.ofNat 2]).length ≤ 140737488355072) := by show _ ≤ _; simp; omega
    have hV := Vb.new w ⟨2, 0, s⟩
    have hvne : ∀ k, v.ownBlock = some k → k ≠ w.heap.size := fun k hk => by have := (hown.lt k hk).2; omega
    have hE : encC ⟨2, 0, s⟩ = [2] ++ strB s.data.toList := rfl
    rw [hE]
    clear hl n0 n1 hk hE
    go_enter Try.func41, Try.ntmps41
    go_wp2_with fail
    refine (num1 v l 2 base _ (by omega) (hown.alloc _) (by simp; omega) Hl0.out).mono ?_
    rintro e w1 ⟨v1, rfl, ho1, hf1⟩
    have hV1 := hV.kept hf1.1 (by intro h; exact hvne _ h.symm rfl)
    have c0 := hV1.c0
    have c1 := hV1.c2
    dsimp only at c0 c1
    clear hV hV1
    go_wp2_with fail
    refine (str_any v1 _ s base w1 s0 ho1 (by have := hf1.1.size; simp at this; omega) HL.out).mono ?_
    rintro e w2 ⟨v2, rfl, ho2, hf2⟩
    go_wp2
    go_ret
    refine ⟨_, rfl, ?_, ((Fr.refl w v).alloc _).trans (hf1.trans hf2)⟩
    simpa using ho2


set_option maxRecDepth 100000 in
set_option maxHeartbeats 400000 in
theorem evalue_any (x : V) (w : World) (hx : x.wf) :
    Calls Try.prog 27 #[x.val] w fun e w' => e = .returned (.tuple #[.string (vB x), .int .i64 (vE x)]) ∧ w.grownBy w' none := by
  have hm := evMayBe_any x (w.alloc (.cells #[.int .i64 x.k, .int .i64 x.n, .string x.s] 24)) hx
  have hV := Vb.new w x
  have hga := World.grownBy_alloc w (.cells #[.int .i64 x.k, .int .i64 x.n, .string x.s] 24) none
  have c0 := hV.c0
  have c1 := hV.c1
  have c2 := hV.c2
  unfold vB vE
  unfold V.val at hm ⊢
  cases hk : okC x with
  | false =>
    rw [hk] at hm
    rw [if_neg (by decide), if_neg (by decide)]
    go_enter Try.func27, Try.ntmps27
    go_wp2_with (go_at_call 40; refine hm.mono ?_; rintro e w1 ⟨rfl, hg1⟩)
    go_ret2
    exact ⟨rfl, grown_up hga hg1⟩
  | true =>
    rw [hk] at hm
    rw [if_pos rfl, if_pos rfl]
    have hov : okV x = true := by unfold okC at hk; rw [Bool.and_eq_true] at hk; exact hk.1
    have hc := fun W => ewriteValue_any (.slice none 0 0) [] x W.heap.size W hx hov (Own.nil _ _ _) (Nat.le_refl _) (by simp)
    unfold V.val at hc
    clear hov
    go_enter Try.func27, Try.ntmps27
    go_wp2_with (go_at_call 40; refine hm.mono ?_; rintro e w1 ⟨rfl, hg1⟩; have d0 := (hV.kept hg1 (by simp)).c0; have d1 := (hV.kept hg1 (by simp)).c1; have d2 := (hV.kept hg1 (by simp)).c2)
    refine (hc _).mono ?_
    rintro e w2 ⟨v2, rfl, ho2, hf2⟩
    have hcv := run_convert_own w2 58 9 5 Try.underlying58 Try.underlying5 Try.underlying9 ho2
    rw [List.nil_append] at hcv
    go_wp2
    go_ret2
    exact ⟨rfl, grown_up (grown_up hga hg1) hf2.1⟩
end Go.Proofs.Ytamgnpmkmlhadaa
