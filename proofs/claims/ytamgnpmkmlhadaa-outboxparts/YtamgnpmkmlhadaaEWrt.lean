/- Contracts, over the turned program: whether a record may be, a record's bytes. Conditions: those that each theorem states. -/
import Derived.Test.YtamgnpmkmlhadaaEVal
namespace Go.Proofs.Ytamgnpmkmlhadaa
open Go.RowKit
set_option linter.unusedVariables false

theorem run_neZ (a b : Int) (s : ByteArray) (w : World) : (binOp .neq 24 (.agg #[.int .i64 a, .int .i64 b, .string s]) (.agg #[.int .i64 0, .int .i64 0, .string ⟨#[]⟩])).run Try.prog w = .ok (.bool (!zeroB ⟨a, b, s⟩)) w := by
  unfold zeroB
  dsimp only
  cases h1 : (a == 0) with
  | false => go_simp
  | true =>
    cases h2 : (b == 0) with
    | false => go_simp
    | true =>
      cases h3 : s.toList.isEmpty with
      | true =>
        have h3' : (s.toList == []) = true := by simpa using h3
        go_simp
      | false =>
        have h3' : (s.toList == []) = false := by rw [beq_eq_false_iff_ne]; intro h; rw [h] at h3; cases h3
        go_simp
theorem Rc9.fl_ir (x : Rc9) (h : x.wf) (k : Nat) : ir (x.fl k) := by
  obtain ⟨_, _, _, h1, h2, h3⟩ := h
  unfold Rc9.fl
  split
  · exact h1
  · split
    · exact h2
    · exact h3
theorem okR_e {x : Rc9} (h : ¬ (0 ≤ x.e ∧ x.e ≤ 3)) : okR x = false := by
  cases hr : okR x with
  | false => rfl
  | true => exact absurd (okR_parts hr).1 h
theorem okR_v {x : Rc9} (h : valO x.v = false) : okR x = false := by
  cases hr : okR x with
  | false => rfl
  | true => have := (okR_parts hr).2.1; rw [h] at this; cases this
theorem okR_s {x : Rc9} (h : ¬ (0 ≤ x.sl ∧ x.sl ≤ 1000000)) : okR x = false := by
  cases hr : okR x with
  | false => rfl
  | true => exact absurd (okR_parts hr).2.2.1 h
theorem okR_f {x : Rc9} {k : Nat} (hk : k < 3) (h : byteOk (x.fl k) = false) : okR x = false := by
  cases hr : okR x with
  | false => rfl
  | true =>
    obtain ⟨_, _, _, h1, h2, h3⟩ := okR_parts hr
    rcases (by omega : k = 0 ∨ k = 1 ∨ k = 2) with rfl | rfl | rfl
    · rw [show x.fl 0 = x.p from rfl, h1] at h; cases h
    · rw [show x.fl 1 = x.o from rfl, h2] at h; cases h
    · rw [show x.fl 2 = x.k from rfl, h3] at h; cases h
theorem byteOk_fl {x : Rc9} (h : okR x = true) (k : Nat) : byteOk (x.fl k) = true := by
  obtain ⟨_, _, _, h1, h2, h3⟩ := okR_parts h
  unfold Rc9.fl
  split
  · exact h1
  · split
    · exact h2
    · exact h3

theorem grown_none9 {w w1 : World} {row : Option Nat} (h : w.grownBy w1 none) : w.grownBy w1 row := ⟨h.os, h.tape, h.output, h.size, fun k hk _ => h.block k hk (by simp)⟩
theorem grown_up' {w w1 w2 : World} {row : Option Nat} (h : w.grownBy w1 none) (h' : w1.grownBy w2 row) : w.grownBy w2 row := grown_trans (grown_none9 h) h' (.inl rfl)
/-- The bytes of the first k counts. -/
def cntB (x : Rc9) (k : Nat) : List UInt8 := ([be x.p.toNat 1, be x.o.toNat 1, be x.k.toNat 1].take k).flatten
theorem cntB_0 (x : Rc9) : cntB x 0 = [] := rfl
theorem cntB_step (x : Rc9) (k : Nat) (h : k < 3) : cntB x (k + 1) = cntB x k ++ be (x.fl k).toNat 1 := by
  rcases (by omega : k = 0 ∨ k = 1 ∨ k = 2) with rfl | rfl | rfl <;> rfl
theorem cntB_len (x : Rc9) (k : Nat) : (cntB x k).length ≤ 3 := by
  rcases (by omega : k = 0 ∨ k = 1 ∨ k = 2 ∨ 3 ≤ k) with rfl | rfl | rfl | h
  · exact Nat.zero_le _
  · show 1 ≤ 3; omega
  · show 2 ≤ 3; omega
  · unfold cntB
    rw [List.take_of_length_le (by simpa using h)]
    show 3 ≤ 3
    omega
theorem enc9_cnt (x : Rc9) : be x.e.toNat 1 ++ encO x.v ++ be x.sl.toNat 4 ++ cntB x 3 = enc9 x := by
  unfold enc9
  rw [List.append_assoc, List.append_assoc]
  rfl

end Go.Proofs.Ytamgnpmkmlhadaa
