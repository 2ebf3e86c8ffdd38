/- Contracts, over the turned program: what the document's Write answers. Conditions: those that each theorem states. -/
import Derived.Test.YtjmkfkmdafjgnabNRefR
import Derived.Test.YtjmkfkmdafjgnabNParts
namespace Go.Proofs.Ytjmkfkmdafjgnab
open Go Go.RowKit
set_option linter.unusedVariables false

theorem catN (a b : List UInt8) : (⟨a.toArray⟩ : ByteArray) ++ ⟨b.toArray⟩ = ⟨(a ++ b).toArray⟩ := by
  apply ByteArray.ext
  rw [ByteArray.data_append]
  simp
theorem size_lt (l : List Pr) (h : ∀ p ∈ l, p.k.size ≤ 32 ∧ p.v.size ≤ 40) : (l.map Pr.size).sum ≤ 74 * l.length := by
  induction l with
  | nil => simp
  | cons p l ih =>
    have h1 := h p List.mem_cons_self
    have h2 := ih (fun q hq => h q (List.mem_cons_of_mem _ hq))
    simp only [List.map_cons, List.sum_cons, List.length_cons]
    rw [show Pr.size p = 2 + p.k.size + p.v.size from rfl]
    omega
theorem kSize_lt (l : List ByteArray) (h : ∀ p ∈ l, p.size ≤ 32) : (l.map kSize).sum ≤ 35 * l.length := by
  induction l with
  | nil => simp
  | cons p l ih =>
    have h1 := h p List.mem_cons_self
    have h2 := ih (fun q hq => h q (List.mem_cons_of_mem _ hq))
    simp only [List.map_cons, List.sum_cons, List.length_cons]
    rw [show kSize p = 3 + p.size from rfl]
    omega
theorem right_size {n : Nd} (h : n.right = true) (hp : n.ps.length ≤ 1099511627776) (hk : n.ks.length ≤ 1099511627776) : wrap64 (n.size : Int) = (n.size : Int) := by
  have : n.size ≤ 4 + 74 * 1099511627776 := by
    unfold Nd.size
    cases e : n.leaf with
    | true =>
      obtain ⟨h1, _, _, h4⟩ := right_leaf h e
      have := size_lt n.ps (fun p hp => ⟨(ordN_mem h4 p.k (List.mem_map_of_mem hp)).2, h1 p hp⟩)
      simp
      omega
    | false =>
      obtain ⟨_, _, _, h4⟩ := right_inner h e
      have := kSize_lt n.ks (fun p hp => (ordN_mem h4 p hp).2)
      simp
      omega
  unfold wrap64
  omega

theorem sum_ge2 (l : List Pr) : 2 * l.length ≤ (l.map Pr.size).sum := by
  induction l with
  | nil => simp
  | cons p l ih =>
    simp only [List.map_cons, List.sum_cons, List.length_cons]
    rw [show Pr.size p = 2 + p.k.size + p.v.size from rfl]
    omega
theorem sumK_ge3 (l : List ByteArray) : 3 * l.length ≤ (l.map kSize).sum := by
  induction l with
  | nil => simp
  | cons p l ih =>
    simp only [List.map_cons, List.sum_cons, List.length_cons]
    rw [show kSize p = 3 + p.size from rfl]
    omega
theorem sum_takele (l : List Pr) (j : Nat) : ((l.take j).map Pr.size).sum ≤ (l.map Pr.size).sum := by
  conv => rhs; rw [← List.take_append_drop j l, List.map_append, List.sum_append]
  exact Nat.le_add_right _ _
end Go.Proofs.Ytjmkfkmdafjgnab
