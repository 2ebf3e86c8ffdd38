/- The document's box in memory: its block, its row. Conditions: those that each theorem states. -/
import Derived.Test.YtamgnpmkmlhadaaOAck
import Derived.Test.YtamgnpmkmlhadaaOAdd
import Derived.Test.YtamgnpmkmlhadaaORef
namespace Go.Proofs.Ytamgnpmkmlhadaa
open Go Go.RowKit
set_option linter.unusedVariables false

/-- The document's box: its block, its row; the mark, the last number. -/
structure Qx (w : World) (q : Nat) (v : Value) (g : Option Nat) (a z : Int) (l : List Ms) : Prop where
  hp : w.heap[q]? = some (.cells #[v, .int .i64 a, .int .i64 z] 41 (0, 0))
  ow : OwO w v l g
  ne : ∀ b, g = some b → b ≠ q
section
variable {w w' : World} {q : Nat} {v : Value} {g : Option Nat} {a z : Int} {l : List Ms}
theorem Qx.lt (h : Qx w q v g a z l) : q < w.heap.size := (Array.getElem?_eq_some_iff.1 h.hp).1
theorem Qx.ltF (h : Qx w q v g a z l) : ∀ k, Ft q g k → k < w.heap.size := fun k hk => by
  rcases hk with rfl | hk
  · exact h.lt
  · exact h.ow.lt k hk
theorem Qx.kept {S : Nat → Prop} (h : Qx w q v g a z l) (hk : Kp S w w') (hS : ∀ k, Ft q g k → ¬ S k) : Qx w' q v g a z l :=
  ⟨by rw [hk.block q h.lt (hS q (.inl rfl))]; exact h.hp, h.ow.kept hk (fun b hb => hS b (.inr hb)), h.ne⟩
theorem Qx.keptN (h : Qx w q v g a z l) (hk : Kp none' w w') : Qx w' q v g a z l := h.kept hk (fun _ _ h => h)
theorem Qx.c0 (h : Qx w q v g a z l) : w.cell? ⟨q, 0, none⟩ = some v := by rw [cell_of_row w q 0 _ 41 (0, 0) h.hp]; rfl
theorem Qx.c1 (h : Qx w q v g a z l) : w.cell? ⟨q, 1, none⟩ = some (.int .i64 a) := by rw [cell_of_row w q 1 _ 41 (0, 0) h.hp]; rfl
theorem Qx.c2 (h : Qx w q v g a z l) : w.cell? ⟨q, 2, none⟩ = some (.int .i64 z) := by rw [cell_of_row w q 2 _ 41 (0, 0) h.hp]; rfl
theorem Qx.fz (h : Qx w q v g a z l) (j : Nat) : w.frozen? ⟨q, j, none⟩ = false := by
  unfold World.frozen?
  rw [show w.heap[(⟨q, j, none⟩ : Addr).block]? = _ from h.hp]
  simp
theorem Qx.set1 (h : Qx w q v g a z l) (a' : Int) : Qx (w.setCell ⟨q, 1, none⟩ (.int .i64 a')) q v g a' z l :=
  ⟨heap_setCell_same w q 1 _ 41 (.int .i64 a') h.hp, h.ow.kept (Kp.setCell (S := fun k => k = q) w q 1 _ rfl) (fun b hb => h.ne b hb), h.ne⟩
theorem Qx.set2 (h : Qx w q v g a z l) (z' : Int) : Qx (w.setCell ⟨q, 2, none⟩ (.int .i64 z')) q v g a z' l :=
  ⟨heap_setCell_same w q 2 _ 41 (.int .i64 z') h.hp, h.ow.kept (Kp.setCell (S := fun k => k = q) w q 2 _ rfl) (fun b hb => h.ne b hb), h.ne⟩
/-- A box behind a call. -/
def Nq (q : Nat) (g : Option Nat) (a z : Int) (l : List Ms) (w w' : World) : Prop := ∃ v' g', Qx w' q v' g' a z l ∧ Kp (Ft q g) w w' ∧ ∀ k, g' = some k → g = some k ∨ w.heap.size ≤ k
theorem Nq.same (h : Qx w q v g a z l) : Nq q g a z l w w := ⟨v, g, h, Kp.refl _ _, fun k e => .inl e⟩
theorem Nq.then {w1 w2 : World} (h : Nq q g a z l w w1) (hk : Kp none' w1 w2) : Nq q g a z l w w2 := by
  obtain ⟨v', g', hb, h1, h2⟩ := h
  exact ⟨v', g', hb.keptN hk, h1.thenN hk, h2⟩
/-- A row that is put into a box. -/
theorem Qx.put {w1 : World} {v1 : Value} {g1 : Option Nat} {l1 : List Ms} (h : Qx w q v g a z l) (hk : Kp (fun b => g = some b) w w1) (ho : OwO w1 v1 l1 g1) (hg : ∀ k, g1 = some k → g = some k ∨ w.heap.size ≤ k) : Nq q g a z l1 w (w1.setCell ⟨q, 0, none⟩ v1) := by
  have hp1 : w1.heap[q]? = some (.cells #[v, .int .i64 a, .int .i64 z] 41 (0, 0)) := by rw [hk.block q h.lt (fun e => h.ne q e rfl)]; exact h.hp
  have k2 : Kp (fun k => k = q) w1 (w1.setCell ⟨q, 0, none⟩ v1) := Kp.setCell (S := fun k => k = q) w1 q 0 v1 rfl
  have hne : ∀ k, g1 = some k → k ≠ q := fun k e ep => by
    rcases hg k e with h3 | h3
    · exact h.ne k h3 ep
    · have := h.lt
      omega
  exact ⟨v1, g1, ⟨heap_setCell_same w1 q 0 _ 41 v1 hp1, ho.kept k2 (fun b hb => hne b hb), hne⟩, (hk.mono (fun _ _ h => .inr h)).then (k2.mono (fun _ _ h => .inl h)), hg⟩
theorem Nq.from {w0 : World} (hk : Kp (Ft q g) w0 w) (h : Nq q g a z l w w') : Nq q g a z l w0 w' := by
  obtain ⟨v', g', hb, h1, h2⟩ := h
  have := hk.size
  exact ⟨v', g', hb, hk.then h1, fun k e => (h2 k e).imp id (fun h => by omega)⟩
end
theorem Qx.new (w : World) : Qx (w.alloc (.cells #[.slice none 0 0, .int .i64 0, .int .i64 0] 41)) w.heap.size (.slice none 0 0) none 0 0 [] :=
  ⟨heap_alloc_new w _, OwO.nil _, fun b hb => by cases hb⟩

end Go.Proofs.Ytamgnpmkmlhadaa
