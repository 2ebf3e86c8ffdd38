/- Contracts, over the turned program: which record, which value bytes are. Conditions: those that each theorem states. -/
import Derived.Test.YtamgnpmkmlhadaaERv
namespace Go.Proofs.Ytamgnpmkmlhadaa
open Go.RowKit
set_option linter.unusedVariables false

theorem vX_wf (t : Sr) : (vX t).wf := by
  have h1 := nX_lt t 1
  have h2 := sX_size (nN t 1)
  have h3 : ∀ n : Int, -9223372036854775808 ≤ wrap64 n ∧ wrap64 n < 9223372036854775808 := by intro n; unfold wrap64; omega
  unfold vX
  split
  · exact ⟨(h3 _).1, (h3 _).2, by show (mkB []).size ≤ _; simp [mkB_size]⟩
  · split
    · exact ⟨by show _ ≤ (0 : Int); decide, by show (0 : Int) < _; decide, by show (sX _).size ≤ _; unfold maxLen; omega⟩
    · exact ⟨by show _ ≤ (0 : Int); decide, by show (0 : Int) < _; decide, by show (mkB []).size ≤ _; simp [mkB_size]⟩
theorem pV_wf (t : Sr) : (pV t).wf := by
  unfold pV
  split
  · exact vX_wf _
  · exact zV_wf
theorem nX_ir (t : Sr) (k : Nat) (h : k ≤ 4) : ir (nX t k : Int) := by
  have h1 := nX_lt t k
  have h2 : 256 ^ k ≤ 256 ^ 4 := Nat.pow_le_pow_right (by omega) h
  unfold ir
  have h3 : (256 : Nat) ^ 4 = 4294967296 := by decide
  omega
theorem pR9_wf (t : Sr) : (pR9 t).wf := ⟨nX_ir _ 1 (by omega), pV_wf _, nX_ir _ 4 (by omega), nX_ir _ 1 (by omega), nX_ir _ 1 (by omega), nX_ir _ 1 (by omega)⟩
theorem nX_w (t : Sr) (k : Nat) (h : k ≤ 4) : wrap64 (nX t k : Int) = (nX t k : Int) := by
  have := nX_ir t k h
  unfold ir at this
  unfold wrap64
  omega
end Go.Proofs.Ytamgnpmkmlhadaa
