/- Contracts, over the turned program: what layer 17's laws call beside the program: a record as the program has it, whether two are the same, what effects come to, whether the program lives. Conditions: those that each theorem states. -/
import Derived.Test.YtamgnpmkmlhadaaEPc
namespace Go.Proofs.Ytamgnpmkmlhadaa
open Go.RowKit
set_option linter.unusedVariables false

theorem run_eqS (a b : Int) (s : ByteArray) (w : World) : (binOp .eql 24 (.agg #[.int .i64 a, .int .i64 b, .string s]) (.agg #[.int .i64 a, .int .i64 b, .string s])).run Try.prog w = .ok (.bool true) w := by
  have h1 : (a == a) = true := by simp
  have h2 : (b == b) = true := by simp
  have h3 : (s.toList == s.toList) = true := by simp
  go_simp
/-- Effects as a value; the record that they come to. -/
def efV (a1 : Option Addr) (l1 m1 : Nat) (a2 : Option Addr) (l2 m2 : Nat) (a3 : Option Addr) (l3 m3 : Nat) (sl en : Int) (v : V) (pc : Int) (rv : Value) : Value :=
  .agg #[.slice a1 l1 m1, .slice a2 l2 m2, .slice a3 l3 m3, .int .i64 sl, .int .i64 en, .int .i64 v.k, .int .i64 v.n, .string v.s, .int .i64 pc, rv]
theorem vB_ok {x : V} (h : okC x = true) : vB x = mkB (encC x) ∧ vE x = 0 := by unfold vB vE; rw [if_pos h, if_pos h]; exact ⟨rfl, rfl⟩
theorem vE_bad {x : V} (h : okC x = false) : vE x = 6 := by unfold vE; rw [h]; rfl
theorem rB_ok {x : Rc9} (h : okR x = true) : rB x = mkB (enc9 x) ∧ rE9 x = 0 := by unfold rB rE9; rw [if_pos h, if_pos h]; exact ⟨rfl, rfl⟩
theorem rE_bad {x : Rc9} (h : okR x = false) : rE9 x = 4 := by unfold rE9; rw [h]; rfl
def five : V := ⟨1, 5, mkB []⟩
theorem five_wf : five.wf := ⟨by show _ ≤ (5 : Int); decide, by show (5 : Int) < _; decide, by show (mkB []).size ≤ _; simp [mkB_size]⟩
theorem five_ok : okC five = true := by decide +kernel
theorem five_enc : encC five = [1, 0, 0, 0, 0, 0, 0, 0, 5] := by decide +kernel
theorem five_v : Ending.returned (.tuple #[.string (vB five), .int .i64 (vE five)]) = .returned (.tuple #[.string ⟨#[1, 0, 0, 0, 0, 0, 0, 0, 5]⟩, .int .i64 0]) := by
  rw [(vB_ok five_ok).1, (vB_ok five_ok).2, five_enc]
  rfl
theorem five_told {x : V} {er : Int} (h : ToldW ⟨#[1, 0, 0, 0, 0, 0, 0, 0, 5]⟩ x er) : x = five ∧ er = 0 := toldW_one h (.inl ⟨rfl, five_ok, five_wf, five_enc⟩)
theorem abc_len : (pcs ⟨#[97, 98, 99]⟩ 2).length = 2 := by decide +kernel
end Go.Proofs.Ytamgnpmkmlhadaa
