/- Contracts, over the turned program: the laws' fill; a commit of one page. Conditions: those that each theorem states. -/
import Derived.Test.YtcfhgfelmofgjaaCCommit
namespace Go.Proofs.Ytcfhgfelmofgjaa
open Go.RowKit
set_option linter.unusedVariables false

theorem make_bytes (w : World) (n : Nat) (hn : n ≤ 1000) : ∃ wa, (Instr.makeSlice 89 (.int .i64 (n : Int)) (.int .i64 (n : Int))).run Try.prog w = .ok (.slice (some ⟨w.heap.size, 0, none⟩) n n) wa ∧ Own 5 wa w.heap.size (.slice (some ⟨w.heap.size, 0, none⟩) n n) (List.replicate n 0) ∧ Kp none' w wa := by
  obtain ⟨i0, hi, hz0, hz1, hz2⟩ := info_parts infoU8
  obtain ⟨wa, hmk, hOa, hga⟩ := run_make_full (P := Try.prog) w w.heap.size 89 5 i0 _ 1 Try.underlying89 hi hz0 hz1 .i64 .i64 n (by rw [hz2]; omega) (by unfold maxLen; omega) (Nat.le_refl _)
  refine ⟨wa, hmk, ?_, Kp.ofN hga _⟩
  have e : (madeCells (Value.int .u8 0).cells (n * 1)).toList = bcs (List.replicate n 0) := by
    show (madeCells #[Value.int .u8 0] (n * 1)).toList = _
    rw [toList_madeCells_one]
    unfold bcs
    rw [List.map_replicate, Nat.mul_one]
    rfl
  unfold Own
  rw [List.length_replicate, ← e]
  exact hOa
theorem Own.keptK {e : TypeId} {w w' : World} {base : Nat} {v : Value} {l : List UInt8} {S : Nat → Prop} (h : Own e w base v l) (hk : Kp S w w') (hS : ∀ k, v.ownBlock = some k → ¬ S k) : Own e w' base v l := prow_kept h hk hS
theorem M_le {w : World} {q : Cq} {F : Nat → Prop} {D : Dv} {Q : Nat → ByteArray} {M M' cm : Int} {s : St} (H : Cst w q F D Q M cm s) (h : M ≤ M') : Cst w q F D Q M' cm s := by
  obtain ⟨L, N, T, h1, h2, h3, h4⟩ := H
  exact ⟨L, N, T, ⟨h1.hR.less h, h1.st, h1.hP, h1.cc, h1.rg, h1.mc, h1.nd, h1.da, h1.s1, h1.s2, h1.s3, h1.s4, h1.n2, h1.hQ, h1.sm⟩, h2, h3, h4⟩
/-- How many pages. -/
def pgN (n : Int) : Nat := 1 + (n % 18446744073709551616 % 30).toNat
theorem pgN_le (n : Int) : 1 ≤ pgN n ∧ pgN n ≤ 30 := by unfold pgN; omega
theorem pgN_wrap (n0 : Int) : Hid (wrap64 (1 + wrap64 ((IntKind.u64.wrap n0).tmod 30)) = (pgN n0 : Int)) := by
  show _ = _
  have hu : IntKind.u64.wrap n0 = n0 % 18446744073709551616 := by simp [IntKind.wrap, IntKind.bits, IntKind.signed]
  have h0 : 0 ≤ n0 % 18446744073709551616 := by omega
  rw [hu, Int.tmod_eq_emod_of_nonneg h0]
  unfold wrap64 pgN
  omega
/-- Pages of one byte each. -/
def pgs1 (P : List UInt8) : Nat → ByteArray := fun p => fillB (P.getD p 0)
theorem pgs1_new (n : Nat) : (fun _ => fillB 0) = pgs1 (List.replicate n 0) := by
  funext p
  unfold pgs1
  rw [List.getD_eq_getElem?_getD, List.getElem?_replicate]
  split <;> rfl
theorem pgs1_size (P : List UInt8) : ∀ p, (pgs1 P p).size = 256 := fun p => fillB_size _
theorem pgs1_set (P : List UInt8) (k : Nat) (b : UInt8) (hk : k < P.length) : withC (pgs1 P) [⟨(k : Int), fillB b⟩] = pgs1 (P.set k b) := by
  funext p
  show (if (p : Int) = (k : Int) then fillB b else pgs1 P p) = _
  unfold pgs1
  rw [List.getD_eq_getElem?_getD, List.getD_eq_getElem?_getD, List.getElem?_set]
  by_cases e : p = k
  · subst e
    simp [hk]
  · rw [if_neg (by omega), if_neg (fun h => e h.symm)]

end Go.Proofs.Ytcfhgfelmofgjaa
