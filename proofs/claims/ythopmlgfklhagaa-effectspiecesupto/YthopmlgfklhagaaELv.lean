/- Contracts, over the turned program: what layer 17's laws call beside the program: a record as the program has it, whether two are the same, what effects come to, whether the program lives. Conditions: those that each theorem states. -/
import Derived.Test.YthopmlgfklhagaaEPc
namespace Go.Proofs.Ythopmlgfklhagaa
open Go.RowKit
set_option linter.unusedVariables false

theorem run_eqS (a b : Int) (s : ByteArray) (w : World) : (binOp .eql 24 (.agg #[.int .i64 a, .int .i64 b, .string s]) (.agg #[.int .i64 a, .int .i64 b, .string s])).run Try.prog w = .ok (.bool true) w := by
  have h1 : (a == a) = true := by simp
  have h2 : (b == b) = true := by simp
  have h3 : (s.toList == s.toList) = true := by simp
  go_simp
set_option maxRecDepth 100000 in
set_option maxHeartbeats 1000000 in
theorem as_any (x : Rc9) (w : World) :
    Calls Try.prog 14 #[x.val] w fun e w' => e = .returned x.val ∧ w.grownBy w' none := by
  have hb := Rb.new 33 w x
  have hg0 := World.grownBy_alloc w (.cells #[.int .i64 x.e, .int .i64 x.v.k, .int .i64 x.v.n, .string x.v.s, .int .i64 x.sl, .int .i64 x.p, .int .i64 x.o, .int .i64 x.k] 33) none
  have hb2 := Rb.new 42 (w.alloc (.cells #[.int .i64 x.e, .int .i64 x.v.k, .int .i64 x.v.n, .string x.v.s, .int .i64 x.sl, .int .i64 x.p, .int .i64 x.o, .int .i64 x.k] 33)) x
  rw [World.size_alloc] at hb2
  have hg1 := World.grownBy_alloc (w.alloc (.cells #[.int .i64 x.e, .int .i64 x.v.k, .int .i64 x.v.n, .string x.v.s, .int .i64 x.sl, .int .i64 x.p, .int .i64 x.o, .int .i64 x.k] 33)) (.cells #[.int .i64 x.e, .int .i64 x.v.k, .int .i64 x.v.n, .string x.v.s, .int .i64 x.sl, .int .i64 x.p, .int .i64 x.o, .int .i64 x.k] 42) none
  obtain ⟨c0, c1, c2, c3, c4, c5, c6, c7⟩ := hb.cs
  unfold Rc9.val
  go_enter Try.func14, Try.ntmps14
  go_wp2
  refine bodyPost_ret (results_rb rfl _ (w.heap.size + 1) _ x rfl hb2) rfl ?_
  exact ⟨rfl, grown_up hg0 hg1⟩
set_option maxRecDepth 100000 in
set_option maxHeartbeats 1000000 in
theorem same17_any (x : Rc9) (w : World) :
    Calls Try.prog 16 #[x.val, x.val] w fun e w' => e = .returned (.bool true) ∧ w.grownBy w' none := by
  have hb := Rb.new 42 w x
  have hg0 := World.grownBy_alloc w (.cells #[.int .i64 x.e, .int .i64 x.v.k, .int .i64 x.v.n, .string x.v.s, .int .i64 x.sl, .int .i64 x.p, .int .i64 x.o, .int .i64 x.k] 42) none
  have hb2 := Rb.new 33 (w.alloc (.cells #[.int .i64 x.e, .int .i64 x.v.k, .int .i64 x.v.n, .string x.v.s, .int .i64 x.sl, .int .i64 x.p, .int .i64 x.o, .int .i64 x.k] 42)) x
  rw [World.size_alloc] at hb2
  have hg1 := World.grownBy_alloc (w.alloc (.cells #[.int .i64 x.e, .int .i64 x.v.k, .int .i64 x.v.n, .string x.v.s, .int .i64 x.sl, .int .i64 x.p, .int .i64 x.o, .int .i64 x.k] 42)) (.cells #[.int .i64 x.e, .int .i64 x.v.k, .int .i64 x.v.n, .string x.v.s, .int .i64 x.sl, .int .i64 x.p, .int .i64 x.o, .int .i64 x.k] 33) none
  have hb1 := hb.kept hg1 (by simp)
  have heq := fun W => run_eqS x.v.k x.v.n x.v.s W
  obtain ⟨c0, c1, c2, c3, c4, c5, c6, c7⟩ := hb1.cs
  obtain ⟨d0, d1, d2, d3, d4, d5, d6, d7⟩ := hb2.cs
  clear hb hb1 hb2
  unfold Rc9.val
  go_enter Try.func16, Try.ntmps16
  go_wp2
  go_ret
  exact ⟨by first | rfl | simp, grown_up hg0 hg1⟩
/-- Effects as a value; the record that they come to. -/
def efV (a1 : Option Addr) (l1 m1 : Nat) (a2 : Option Addr) (l2 m2 : Nat) (a3 : Option Addr) (l3 m3 : Nat) (sl en : Int) (v : V) (pc : Int) (rv : Value) : Value :=
  .agg #[.slice a1 l1 m1, .slice a2 l2 m2, .slice a3 l3 m3, .int .i64 sl, .int .i64 en, .int .i64 v.k, .int .i64 v.n, .string v.s, .int .i64 pc, rv]
set_option maxRecDepth 100000 in
set_option maxHeartbeats 1000000 in
theorem eof_any (a1 : Option Addr) (l1 m1 : Nat) (a2 : Option Addr) (l2 m2 : Nat) (a3 : Option Addr) (l3 m3 : Nat) (sl en : Int) (v : V) (pc : Int) (rv : Value) (w : World) :
    Calls Try.prog 17 #[efV a1 l1 m1 a2 l2 m2 a3 l3 m3 sl en v pc rv] w fun e w' => e = .returned (Rc9.val ⟨en, v, sl, l1, l2, l3⟩) ∧ w.grownBy w' none := by
  have hg0 := World.grownBy_alloc w (.cells #[.slice a1 l1 m1, .slice a2 l2 m2, .slice a3 l3 m3, .int .i64 sl, .int .i64 en, .int .i64 v.k, .int .i64 v.n, .string v.s, .int .i64 pc, rv] 40) none
  have hb2 := Rb.new 42 (w.alloc (.cells #[.slice a1 l1 m1, .slice a2 l2 m2, .slice a3 l3 m3, .int .i64 sl, .int .i64 en, .int .i64 v.k, .int .i64 v.n, .string v.s, .int .i64 pc, rv] 40)) ⟨en, v, sl, l1, l2, l3⟩
  rw [World.size_alloc] at hb2
  have hg1 := World.grownBy_alloc (w.alloc (.cells #[.slice a1 l1 m1, .slice a2 l2 m2, .slice a3 l3 m3, .int .i64 sl, .int .i64 en, .int .i64 v.k, .int .i64 v.n, .string v.s, .int .i64 pc, rv] 40)) (.cells #[.int .i64 en, .int .i64 v.k, .int .i64 v.n, .string v.s, .int .i64 sl, .int .i64 (l1 : Int), .int .i64 (l2 : Int), .int .i64 (l3 : Int)] 42) none
  dsimp only at hb2
  unfold efV
  go_enter Try.func17, Try.ntmps17
  go_wp2
  refine bodyPost_ret (results_rb rfl _ (w.heap.size + 1) _ ⟨en, v, sl, l1, l2, l3⟩ rfl hb2) rfl ?_
  exact ⟨rfl, grown_up hg0 hg1⟩
set_option maxRecDepth 100000 in
set_option maxHeartbeats 1000000 in
theorem rof_any (a1 : Option Addr) (l1 m1 : Nat) (a2 : Option Addr) (l2 m2 : Nat) (a3 : Option Addr) (l3 m3 : Nat) (sl en : Int) (v : V) (pc : Int) (rv : Value) (w : World) :
    Calls Try.prog 18 #[efV a1 l1 m1 a2 l2 m2 a3 l3 m3 sl en v pc rv] w fun e w' => e = .returned (Rc9.val ⟨en, v, sl, l1, l2, l3⟩) ∧ w.grownBy w' none := by
  have hg0 := World.grownBy_alloc w (.cells #[.slice a1 l1 m1, .slice a2 l2 m2, .slice a3 l3 m3, .int .i64 sl, .int .i64 en, .int .i64 v.k, .int .i64 v.n, .string v.s, .int .i64 pc, rv] 40) none
  have hb2 := Rb.new 33 (w.alloc (.cells #[.slice a1 l1 m1, .slice a2 l2 m2, .slice a3 l3 m3, .int .i64 sl, .int .i64 en, .int .i64 v.k, .int .i64 v.n, .string v.s, .int .i64 pc, rv] 40)) ⟨en, v, sl, l1, l2, l3⟩
  rw [World.size_alloc] at hb2
  have hg1 := World.grownBy_alloc (w.alloc (.cells #[.slice a1 l1 m1, .slice a2 l2 m2, .slice a3 l3 m3, .int .i64 sl, .int .i64 en, .int .i64 v.k, .int .i64 v.n, .string v.s, .int .i64 pc, rv] 40)) (.cells #[.int .i64 en, .int .i64 v.k, .int .i64 v.n, .string v.s, .int .i64 sl, .int .i64 (l1 : Int), .int .i64 (l2 : Int), .int .i64 (l3 : Int)] 33) none
  dsimp only at hb2
  unfold efV
  go_enter Try.func18, Try.ntmps18
  go_wp2
  refine bodyPost_ret (results_rrb rfl _ (w.heap.size + 1) _ ⟨en, v, sl, l1, l2, l3⟩ rfl hb2) rfl ?_
  exact ⟨rfl, grown_up hg0 hg1⟩

theorem vB_ok {x : V} (h : okC x = true) : vB x = mkB (encC x) ∧ vE x = 0 := by unfold vB vE; rw [if_pos h, if_pos h]; exact ⟨rfl, rfl⟩
theorem vE_bad {x : V} (h : okC x = false) : vE x = 6 := by unfold vE; rw [h]; rfl
theorem rB_ok {x : Rc9} (h : okR x = true) : rB x = mkB (enc9 x) ∧ rE9 x = 0 := by unfold rB rE9; rw [if_pos h, if_pos h]; exact ⟨rfl, rfl⟩
theorem rE_bad {x : Rc9} (h : okR x = false) : rE9 x = 4 := by unfold rE9; rw [h]; rfl
def five : V := ⟨1, 5, mkB []⟩
theorem five_wf : five.wf := ⟨by show _ ≤ (5 : Int); decide, by show (5 : Int) < _; decide, by show (mkB []).size ≤ _; simp [mkB_size]⟩
theorem five_ok : okC five = true := by decide +kernel
theorem five_enc : encC five = [1, 0, 0, 0, 0, 0, 0, 0, 5] := by decide +kernel
theorem five_v : Ending.returned (.tuple #[.string (vB five), .int .i64 (vE five)]) = .returned (.tuple #[.string ⟨#[1, 0, 0, 0, 0, 0, 0, 0, 5]⟩, .int .i64 0]) := by
  rw [(vB_ok five_ok).1, (vB_ok five_ok).2, five_enc]
  rfl
theorem five_told {x : V} {er : Int} (h : ToldW ⟨#[1, 0, 0, 0, 0, 0, 0, 0, 5]⟩ x er) : x = five ∧ er = 0 := toldW_one h (.inl ⟨rfl, five_ok, five_wf, five_enc⟩)
theorem abc_len : (pcs ⟨#[97, 98, 99]⟩ 2).length = 2 := by decide +kernel
set_option maxRecDepth 100000 in
set_option maxHeartbeats 1000000 in
theorem lives17_any (w : World) : Calls Try.prog 8 #[] w fun e w' => e = .returned (.bool true) ∧ w.grownBy w' none := by
  have hv := fun W => evalue_any five W five_wf
  have hu := fun W => eunvalue_any ⟨#[1, 0, 0, 0, 0, 0, 0, 0, 5]⟩ W (by decide)
  have hp := fun W => epieces_any ⟨#[97, 98, 99]⟩ 2 W (by decide)
  have Hfv := hide five_v
  go_enter Try.func8, Try.ntmps8
  go_wp2_with fail
  refine (hv _).mono ?_
  rintro e w1 ⟨he, hg1⟩
  rw [Hfv.out] at he
  subst he
  go_wp2_with fail
  refine (hu _).mono ?_
  rintro e w2 ⟨x, er, rfl, hT, hg2⟩
  obtain ⟨rfl, rfl⟩ := five_told hT
  have hga := World.grownBy_alloc w2 (.cells #[.int .i64 1, .int .i64 5, .string (mkB [])] 24) none
  have G2 := grown_up (grown_up hg1 hg2) hga
  have c1 : (w2.alloc (.cells #[.int .i64 1, .int .i64 5, .string (mkB [])] 24)).cell? ⟨w2.heap.size, 1, none⟩ = some (.int .i64 5) := (Vb.new w2 five).c1
  unfold V.val five
  dsimp only
  clear hT
  have Hal := hide abc_len
  go_wp2_with (go_at_call 21; refine (hp _).mono ?_; rintro e w3 ⟨v, rfl, hO, hg3⟩; obtain ⟨a, c, rfl, _⟩ := hO.open; rw [Hal.out])
  go_ret
  exact ⟨rfl, grown_up G2 hg3⟩
end Go.Proofs.Ythopmlgfklhagaa
