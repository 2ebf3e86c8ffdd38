/- Contracts, over the turned program: a piece of work: Changed, Commit. Conditions: those that each theorem states. -/
import Derived.Test.YtmnedhlgplkfhaaSWk
import Derived.Test.YtmnedhlgplkfhaaJK3
namespace Go.Proofs.Ytmnedhlgplkfhaa
open Go.RowKit
set_option linter.unusedVariables false

theorem Cz.more {w w' : World} {q : Cq} {F F' : Nat → Prop} {D : Dv} {Q : Nat → ByteArray} {M cm : Int} {s s' : St} {n n' : Nat} (h : Cz w w' q F F' D Q M cm s n s') (hn : n ≤ n') : Cz w w' q F F' D Q M cm s n' s' := ⟨h.c, h.f, h.k, Nat.le_trans h.b (by omega)⟩
theorem Cz.bound {w w' : World} {q : Cq} {F F' : Nat → Prop} {D : Dv} {Q : Nat → ByteArray} {M cm : Int} {s s' : St} {n : Nat} (h : Cz w w' q F F' D Q M cm s n s') : Cz w w' q F (fun k => F' k ∧ k < w'.heap.size) D Q M cm s n s' := ⟨Cas.mono h.c (fun k hk hf => ⟨hf, hk⟩), fun k hk => h.f k hk.1, h.k, h.b⟩
/-- The pages of a list of changes. -/
theorem chgC_pagesK (b l : List ByteArray) : (chgC l (chgs b l)).map Chg.page = chgK b l l.length := by
  rw [chgC_pages]
  rfl
end Go.Proofs.Ytmnedhlgplkfhaa
