/- Contracts, over the turned program: what the document's Write answers of inner nodes, and of all. Conditions: those that each theorem states. -/
import Derived.Test.YtjmkfkmdafjgnabNRefW
namespace Go.Proofs.Ytjmkfkmdafjgnab
open Go Go.RowKit
set_option linter.unusedVariables false

theorem encKs_snoc : ∀ (l : List ByteArray) (m : List Int) (k : Nat) (h : k < l.length) (h' : k < m.length), encKs (l.take (k + 1)) m = encKs (l.take k) m ++ (strB l[k].data.toList ++ be m[k].toNat 2)
  | x :: l, z :: m, 0, _, _ => by simp [encKs]
  | x :: l, z :: m, k + 1, h, h' => by
    have ih := encKs_snoc l m k (by simpa using h) (by simpa using h')
    simp only [List.take_succ_cons, encKs, List.getElem_cons_succ, List.append_assoc] at ih ⊢
    rw [ih]
  | [], _, _, h, _ => absurd h (by simp)
  | _ :: _, [], _, _, h => absurd h (by simp)
theorem sumK_takele (l : List ByteArray) (j : Nat) : ((l.take j).map kSize).sum ≤ (l.map kSize).sum := by
  conv => rhs; rw [← List.take_append_drop j l, List.map_append, List.sum_append]
  exact Nat.le_add_right _ _
theorem encKs_le : ∀ (l : List ByteArray) (m : List Int), (∀ k ∈ l, k.size ≤ 255) → (encKs l m).length ≤ (l.map kSize).sum
  | [], _, _ => by simp [encKs]
  | _ :: _, [], _ => by simp [encKs]
  | k :: l, d :: m, h => by
    have h1 := h k List.mem_cons_self
    have h2 := encKs_le l m (fun q hq => h q (List.mem_cons_of_mem _ hq))
    show (strB k.data.toList ++ be d.toNat 2 ++ encKs l m).length ≤ kSize k + (l.map kSize).sum
    rw [List.length_append, List.length_append, strB_len' _ (by rw [size_list]; exact h1), be_len, size_list, show kSize k = 3 + k.size from rfl]
    omega
end Go.Proofs.Ytjmkfkmdafjgnab
