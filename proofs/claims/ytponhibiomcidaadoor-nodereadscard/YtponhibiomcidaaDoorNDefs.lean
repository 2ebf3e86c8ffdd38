/- Pairs and nodes as they lie in memory, and the order of texts. Definitions and laws, of the program the layout alone, and factotumref02's Ahead. Conditions: those that each theorem states. -/
import Derived.Test.YtponhibiomcidaaDoorNPure
import Derived.Test.YtponhibiomcidaaDoorJB
import Derived.Test.YtponhibiomcidaaDoorRefRead
import Derived.WalkLawsBesides
namespace Go.Proofs.YtponhibiomcidaaDoor
open Go Go.RowKit
set_option linter.unusedVariables false

/-- The slice value v reads as the pairs l, and lies among the blocks below B. -/
def Prs (B : Nat) (w : World) (v : Value) (l : List Pr) : Prop :=
  ∃ a c, v = .slice a l.length c ∧ l.length ≤ c ∧ c ≤ maxLen ∧ ∀ i (h : i < l.length), ∃ b off, a = some ⟨b, off, none⟩ ∧ b < B ∧
    w.cell? ⟨b, off + i * 2, none⟩ = some (.string l[i].k) ∧ w.cell? ⟨b, off + i * 2 + 1, none⟩ = some (.string l[i].v)
theorem Prs.nil (B : Nat) (w : World) : Prs B w (.slice none 0 0) [] := ⟨none, 0, rfl, Nat.le_refl _, Nat.zero_le _, fun i h => absurd h (by simp)⟩
theorem Prs.kept {B : Nat} {S : Nat → Prop} {w w' : World} {v : Value} {l : List Pr} (h : Prs B w v l) (hk : Kp S w w') (hS : ∀ k, k < B → ¬ S k) : Prs B w' v l := by
  obtain ⟨a, c, rfl, h1, h2, h3⟩ := h
  refine ⟨a, c, rfl, h1, h2, fun i hi => ?_⟩
  obtain ⟨b, off, rfl, hb, c0, c1⟩ := h3 i hi
  exact ⟨b, off, rfl, hb, hk.cell c0 (hS b hb), hk.cell c1 (hS b hb)⟩
theorem Prs.keptN {B : Nat} {w w' : World} {v : Value} {l : List Pr} (h : Prs B w v l) (hk : Kp none' w w') : Prs B w' v l := h.kept hk (fun _ _ h => h)
theorem Prs.mono {B B' : Nat} {w : World} {v : Value} {l : List Pr} (h : Prs B w v l) (hB : B ≤ B') : Prs B' w v l := by
  obtain ⟨a, c, rfl, h1, h2, h3⟩ := h
  refine ⟨a, c, rfl, h1, h2, fun i hi => ?_⟩
  obtain ⟨b, off, rfl, hb, c0⟩ := h3 i hi
  exact ⟨b, off, rfl, Nat.lt_of_lt_of_le hb hB, c0⟩
theorem Sl.more {α : Type} {f : α → Value} {B B' : Nat} {w : World} {v : Value} {l : List α} (h : Sl f B w v l) (hB : B ≤ B') : Sl f B' w v l := by
  obtain ⟨a, c, rfl, h1, h2, h3⟩ := h
  refine ⟨a, c, rfl, h1, h2, fun i hi => ?_⟩
  obtain ⟨b, off, rfl, hb, c0⟩ := h3 i hi
  exact ⟨b, off, rfl, Nat.lt_of_lt_of_le hb hB, c0⟩
/-- What every node that lies in memory keeps to. -/
structure Nd.wf (n : Nd) : Prop where
  p : ∀ x ∈ n.ps, x.k.size ≤ maxLen ∧ x.v.size ≤ maxLen
  k : ∀ x ∈ n.ks, x.size ≤ maxLen
  d : ∀ z ∈ n.kd, -9223372036854775808 ≤ z ∧ z < 9223372036854775808
/-- The value x is the node n, whose parts lie among the blocks below B. -/
structure Nv (B : Nat) (w : World) (x : Value) (n : Nd) : Prop where
  is : ∃ pv kv dv, x = .agg #[.bool n.leaf, pv, kv, dv] ∧ Prs B w pv n.ps ∧ Sl Value.string B w kv n.ks ∧ Sl (Value.int .i64) B w dv n.kd
  wf : n.wf
theorem Nv.kept {B : Nat} {S : Nat → Prop} {w w' : World} {x : Value} {n : Nd} (h : Nv B w x n) (hk : Kp S w w') (hS : ∀ k, k < B → ¬ S k) : Nv B w' x n := by
  obtain ⟨pv, kv, dv, e, h1, h2, h3⟩ := h.is
  exact ⟨⟨pv, kv, dv, e, h1.kept hk hS, h2.kept hk hS, h3.kept hk hS⟩, h.wf⟩
theorem Nv.keptN {B : Nat} {w w' : World} {x : Value} {n : Nd} (h : Nv B w x n) (hk : Kp none' w w') : Nv B w' x n := h.kept hk (fun _ _ h => h)
theorem Nv.more {B B' : Nat} {w : World} {x : Value} {n : Nd} (h : Nv B w x n) (hB : B ≤ B') : Nv B' w x n := by
  obtain ⟨pv, kv, dv, e, h1, h2, h3⟩ := h.is
  exact ⟨⟨pv, kv, dv, e, h1.mono hB, h2.more hB, h3.more hB⟩, h.wf⟩
/-- A node's four cells in a block of their own. -/
def Nb (w : World) (b : Nat) (l : Bool) (pv kv dv : Value) : Prop := w.heap[b]? = some (.cells #[.bool l, pv, kv, dv] 27 (0, 0))
theorem Nb.c0 {w : World} {b : Nat} {l : Bool} {pv kv dv : Value} (h : Nb w b l pv kv dv) : w.cell? ⟨b, 0, none⟩ = some (.bool l) := by rw [cell_of_row w b 0 _ 27 (0, 0) h]; rfl
theorem Nb.c1 {w : World} {b : Nat} {l : Bool} {pv kv dv : Value} (h : Nb w b l pv kv dv) : w.cell? ⟨b, 1, none⟩ = some pv := by rw [cell_of_row w b 1 _ 27 (0, 0) h]; rfl
theorem Nb.c2 {w : World} {b : Nat} {l : Bool} {pv kv dv : Value} (h : Nb w b l pv kv dv) : w.cell? ⟨b, 2, none⟩ = some kv := by rw [cell_of_row w b 2 _ 27 (0, 0) h]; rfl
theorem Nb.c3 {w : World} {b : Nat} {l : Bool} {pv kv dv : Value} (h : Nb w b l pv kv dv) : w.cell? ⟨b, 3, none⟩ = some dv := by rw [cell_of_row w b 3 _ 27 (0, 0) h]; rfl
theorem Nb.lt {w : World} {b : Nat} {l : Bool} {pv kv dv : Value} (h : Nb w b l pv kv dv) : b < w.heap.size := (Array.getElem?_eq_some_iff.1 h).1
theorem Nb.kept {w w' : World} {b : Nat} {l : Bool} {pv kv dv : Value} {S : Nat → Prop} (h : Nb w b l pv kv dv) (hk : Kp S w w') (hS : ¬ S b) : Nb w' b l pv kv dv := by
  unfold Nb
  rw [hk.block b h.lt hS]
  exact h
theorem Nb.new (w : World) (l : Bool) (pv kv dv : Value) : Nb (w.alloc (.cells #[.bool l, pv, kv, dv] 27)) w.heap.size l pv kv dv := heap_alloc_new w _
theorem textEq (a b : ByteArray) : (a.toList == b.toList) = decide (a = b) := by
  by_cases h : a = b
  · subst h; simp
  · have h' : ¬ a.toList = b.toList := by
      intro e
      rw [ByteArray.toList_eq, ByteArray.toList_eq] at e
      exact h (ByteArray.ext (Array.toList_inj.1 e))
    simp [h, h']
end Go.Proofs.YtponhibiomcidaaDoor
