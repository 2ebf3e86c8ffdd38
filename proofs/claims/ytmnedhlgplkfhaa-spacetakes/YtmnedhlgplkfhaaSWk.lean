/- Contracts, over the turned program: a piece of work: which pages a commit would change. Conditions: those that each theorem states. -/
import Derived.Test.YtmnedhlgplkfhaaSWt
import Derived.Test.YtmnedhlgplkfhaaJS3
import Derived.Test.YtmnedhlgplkfhaaJK3
namespace Go.Proofs.Ytmnedhlgplkfhaa
open Go.RowKit
set_option linter.unusedVariables false

/-- The changes of the first k pages. -/
def chgCK (b l : List ByteArray) (k : Nat) : List Chg := chgC l ((List.range k).filter (fun i => isU l i && decide (l.getD i ⟨#[]⟩ ≠ b.getD i ⟨#[]⟩)))
theorem chgCK_succ (b l : List ByteArray) (k : Nat) : chgCK b l (k + 1) = chgCK b l k ++ (if (isU l k && decide (l.getD k ⟨#[]⟩ ≠ b.getD k ⟨#[]⟩)) = true then [⟨(k : Int), l.getD k ⟨#[]⟩⟩] else []) := by
  unfold chgCK chgC
  rw [List.range_succ, List.filter_append, List.map_append]
  congr 1
  by_cases h : (isU l k && decide (l.getD k ⟨#[]⟩ ≠ b.getD k ⟨#[]⟩)) = true
  · rw [if_pos h]
    simp only [List.filter_cons, h, if_true, List.filter_nil, List.map_cons, List.map_nil]
  · rw [if_neg h]
    have h' : (isU l k && decide (l.getD k ⟨#[]⟩ ≠ b.getD k ⟨#[]⟩)) = false := by simpa using h
    simp only [List.filter_cons, h', if_false, List.filter_nil, List.map_nil, Bool.false_eq_true]
theorem chgCK_len (b l : List ByteArray) (k : Nat) : (chgCK b l k).length ≤ k := by
  unfold chgCK
  rw [chgC_len]
  exact Nat.le_trans (List.length_filter_le _ _) (by simp)
theorem chgCK_all (b l : List ByteArray) : chgCK b l l.length = chgC l (chgs b l) := rfl
theorem St.use_le (sz n : Nat) (s : St) (z : Int) : (s.use sz n z).h + (s.use sz n z).m ≤ s.h + s.m + 1 := by
  have := St.sum (sz := sz) (n := n) s z
  split at this <;> omega
/-- What a call that reads leaves of the cache and of what it makes itself. -/
structure Cz (w w' : World) (q : Cq) (F F' : Nat → Prop) (D : Dv) (Q : Nat → ByteArray) (M cm : Int) (s : St) (n : Nat) (s' : St) : Prop where
  c : Cst w' q F' D Q M cm s'
  f : ∀ k, F' k → F k ∨ w.heap.size ≤ k
  k : Kp F w w'
  b : s'.h + s'.m ≤ s.h + s.m + n
theorem Cz.refl {w : World} {q : Cq} {F : Nat → Prop} {D : Dv} {Q : Nat → ByteArray} {M cm : Int} {s : St} (h : Cst w q F D Q M cm s) : Cz w w q F F D Q M cm s 0 s := ⟨h, fun _ h => .inl h, Kp.refl _ _, Nat.le_refl _⟩
theorem Cz.thenN {w w1 w2 : World} {q : Cq} {F F' : Nat → Prop} {D : Dv} {Q : Nat → ByteArray} {M cm : Int} {s s' : St} {n : Nat} (h : Cz w w1 q F F' D Q M cm s n s') (hk : Kp none' w1 w2) : Cz w w2 q F F' D Q M cm s n s' := ⟨Cas.keptN h.c hk, h.f, h.k.thenN hk, h.b⟩
/-- A block of the call's own is turned. -/
theorem Cz.own {w w1 w2 : World} {q : Cq} {F F' T : Nat → Prop} {D : Dv} {Q : Nat → ByteArray} {M cm : Int} {s s' : St} {n : Nat} (h : Cz w w1 q F F' D Q M cm s n s') (hk : Kp T w1 w2) (hT : ∀ k, T k → w.heap.size ≤ k ∧ ¬ F' k) : Cz w w2 q F F' D Q M cm s n s' :=
  ⟨Cas.kept h.c hk (fun k _ hf ht => (hT k ht).2 hf), h.f, h.k.trans hk (fun _ _ h => h) (fun k hk ht => absurd (hT k ht).1 (by omega)), h.b⟩
theorem Cz.read {w w1 : World} {q : Cq} {F F' : Nat → Prop} {D : Dv} {Q : Nat → ByteArray} {M cm : Int} {s s' : St} {n : Nat} (h : Cz w w1 q F F' D Q M cm s n s') (hb : s.h + s.m + n ≤ 1000000000) (z : Int) :
    Calls Try.prog 13 #[.pointer (some ⟨q.c, 0, none⟩), .int .i64 z] w1 fun e w2 => e = .returned (.tuple #[.string (rdCS q.n Q z), .int .i64 (rdCE q.n z)]) ∧ ∃ F'' s'', Cz w w2 q F F'' D Q M cm s (n + 1) s'' ∧ (∀ k, k < w1.heap.size → F'' k → F' k) ∧ (∀ k, F'' k → k < w2.heap.size) ∧ Kp F' w1 w2 := by
  refine (cread_any h.c (Nat.le_trans h.b hb) z).mono ?_
  rintro e w2 ⟨rfl, hC, hk⟩
  refine ⟨rfl, fun j => (F' j ∨ w1.heap.size ≤ j) ∧ j < w2.heap.size, _, ⟨Cas.mono hC (fun k hk h => ⟨h, hk⟩), fun k hk => ?_, h.k.trans hk (fun _ _ h => h) (fun k hk hf => ?_), ?_⟩, fun k hk hf => ?_, fun k hk => hk.2, hk⟩
  · rcases hk.1 with h1 | h1
    · exact h.f k h1
    · exact .inr (Nat.le_trans h.k.size h1)
  · rcases h.f k hf with h1 | h1
    · exact h1
    · omega
  · have := St.use_le q.sz q.n s' z
    have := h.b
    omega
  · rcases hf.1 with h1 | h1
    · exact h1
    · omega
end Go.Proofs.Ytmnedhlgplkfhaa
