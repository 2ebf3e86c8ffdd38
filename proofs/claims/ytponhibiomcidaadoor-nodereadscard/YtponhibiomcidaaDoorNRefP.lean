/- Contracts, over the turned program: what the document's Put and Cut answer. Conditions: those that each theorem states. -/
import Derived.Test.YtponhibiomcidaaDoorNRef
import Derived.Test.YtponhibiomcidaaDoorNApp
import Derived.Test.YtponhibiomcidaaDoorNRes
namespace Go.Proofs.YtponhibiomcidaaDoor
open Go Go.RowKit
set_option linter.unusedVariables false

theorem src_two' {P : Program} (w : World) (t e : TypeId) (ht : P.underlying t = some (.slice e)) (x y : Value) (hx : x.oneCell' = true) (hy : y.oneCell' = true) (g : Nat) (hg : w.heap.size = g) : Src P 2 t (.slice (some ⟨g, 0, none⟩) 1 1) 1 [x, y] (w.alloc (.cells #[x, y] e)) := by
  subst hg
  refine Src.ofSlice (e' := e) _ ht ⟨w.heap.size, 0, none⟩ 1 1 [x, y] (by simp) ?_ (by intro u hu; simp at hu; rcases hu with rfl | rfl <;> assumption)
  intro j u hj
  match j, hj with
  | 0, hj => simp at hj; subst hj; simp [Addr.add]
  | 1, hj => simp at hj; subst hj; simp [Addr.add]
  | (j + 2), hj => simp at hj

theorem Prs.dropM {B : Nat} {w : World} {a : Option Addr} {c : Nat} {l : List Pr} (h : Prs B w (.slice a l.length c) l) (m : Nat) (hm : m ≤ l.length) : Prs B w (.slice (a.map (fun x => x.add (m * 2))) (l.length - m) (c - m)) (l.drop m) :=
  h.drop m hm (fun b off _ e => by rw [e]; simp [addr_plainN])
theorem Prs.drop0 {B : Nat} {w : World} {a : Option Addr} {c : Nat} {l : List Pr} (h : Prs B w (.slice a l.length c) l) (m : Nat) (hm : m ≤ l.length) (hc : c = m) : Prs B w (.slice a 0 0) (l.drop m) := by
  have hl : l.length ≤ c := by obtain ⟨_, _, e, h1, _⟩ := h; cases e; exact h1
  have := h.drop (a' := a) m hm (fun b off hlt e => absurd hlt (by omega))
  rwa [show c - m = 0 by omega, show l.length - m = 0 by omega] at this
theorem Nv.own {w : World} {v : Value} {l : List Pr} (h : Prs w.heap.size w v l) (hw : ∀ p ∈ l, p.k.size ≤ maxLen ∧ p.v.size ≤ maxLen) : Nv w.heap.size w (.agg #[.bool true, v, .slice none 0 0, .slice none 0 0]) ⟨true, l, [], []⟩ :=
  ⟨⟨v, _, _, rfl, h, Sl.nil _ _ _, Sl.nil _ _ _⟩, ⟨hw, by simp, by simp⟩⟩

end Go.Proofs.YtponhibiomcidaaDoor
