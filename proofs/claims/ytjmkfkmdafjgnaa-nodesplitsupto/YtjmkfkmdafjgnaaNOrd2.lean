/- Steps of a region that draws its order: rows of slices that are made; what a step leaves of them. Conditions: those that each theorem states. -/
import Derived.Test.YtjmkfkmdafjgnaaNOrd
import Derived.Test.YtjmkfkmdafjgnaaNPi
namespace Go.Proofs.Ytjmkfkmdafjgnaa
open Go Go.RowKit
set_option linter.unusedVariables false

set_option maxRecDepth 100000 in
theorem nstep_parts1 {w : World} {ops : Array Oper} {o : Oper} {a : Act} {K : Act → World → Prop} {Q : Exit → Act → World → Prop} {E : Prop} {d : Nat} (hgd : o.guard = none) (hd : o.dst = some d) (x : Operand) (ho : o.op = .buildSlice 85 1 #[(0, x)]) {a1 : Option Addr} {n1 c1 : Nat} (hx : a.eval x = .slice a1 n1 c1)
    (h : ∀ W' g, Sl (fun x : Value => x) (g + 1) W' (.slice (some ⟨g, 0, none⟩) 1 1) [.slice a1 n1 c1] → Kp none' w W' → w.heap.size ≤ g → K (a.put (some d) (.slice (some ⟨g, 0, none⟩) 1 1)) W') :
    if Region.wanted o (yielded ops a.tmps) = true then Oper.wp Try.prog o a w K Q else E := by
  have hw : Region.wanted o (yielded ops a.tmps) = true := by simp [Region.wanted, hgd]
  rw [if_pos hw]
  have h1 := h _ w.heap.size (parts_new w [.slice a1 n1 c1] 22 w.heap.size 1 rfl rfl (by omega)) (Kp.alloc _ _ _) (Nat.le_refl _)
  clear h
  obtain ⟨dst, op, type, pos, after, guard⟩ := o
  dsimp only at hgd hd ho
  subst hgd hd ho
  unfold Oper.wp execOp
  dsimp only
  simp only [List.map_toArray, List.map_cons, List.map_nil, hx]
  go_simp
  first | exact h1 | (simp only [Act.put] at h1 ⊢; exact h1)
set_option maxRecDepth 100000 in
theorem nstep_key1 {w : World} {ops : Array Oper} {o : Oper} {a : Act} {K : Act → World → Prop} {Q : Exit → Act → World → Prop} {E : Prop} {d : Nat} (hgd : o.guard = none) (hd : o.dst = some d) (x : Operand) (ho : o.op = .buildSlice 23 1 #[(0, x)]) {s : ByteArray} (hx : a.eval x = .string s)
    (h : ∀ W' g, Sl Value.string (g + 1) W' (.slice (some ⟨g, 0, none⟩) 1 1) [s] → Kp none' w W' → w.heap.size ≤ g → K (a.put (some d) (.slice (some ⟨g, 0, none⟩) 1 1)) W') :
    if Region.wanted o (yielded ops a.tmps) = true then Oper.wp Try.prog o a w K Q else E := by
  have hw : Region.wanted o (yielded ops a.tmps) = true := by simp [Region.wanted, hgd]
  rw [if_pos hw]
  have hS : Sl Value.string (w.heap.size + 1) (w.alloc (.cells #[.string s] 9)) (.slice (some ⟨w.heap.size, 0, none⟩) 1 1) [s] := by
    refine ⟨_, _, rfl, by simp, by unfold maxLen; omega, fun i hi => ⟨w.heap.size, 0, rfl, by omega, ?_⟩⟩
    have h := heap_alloc_new w (.cells #[.string s] 9)
    have hi0 : i = 0 := by simpa using hi
    subst hi0
    rw [cell_of_row _ w.heap.size (0 + 0) _ 9 (0, 0) h]; rfl
  have h1 := h _ w.heap.size hS (Kp.alloc _ _ _) (Nat.le_refl _)
  clear h
  obtain ⟨dst, op, type, pos, after, guard⟩ := o
  dsimp only at hgd hd ho
  subst hgd hd ho
  unfold Oper.wp execOp
  dsimp only
  simp only [List.map_toArray, List.map_cons, List.map_nil, hx]
  go_simp
  first | exact h1 | (simp only [Act.put] at h1 ⊢; exact h1)
set_option maxRecDepth 100000 in
theorem nstep_partsS {w : World} {ops : Array Oper} {o : Oper} {a : Act} {K : Act → World → Prop} {Q : Exit → Act → World → Prop} {E : Prop} {d : Nat} (hgd : o.guard = none) (hd : o.dst = some d) (x y z : Operand) (ho : o.op = .buildSlice 93 3 #[(0, x), (1, y), (2, z)]) {a1 a2 a3 : Option Addr} {n1 c1 n2 c2 n3 c3 : Nat} (hx : a.eval x = .slice a1 n1 c1) (hy : a.eval y = .slice a2 n2 c2) (hz : a.eval z = .slice a3 n3 c3)
    (h : ∀ W' g, Sl (fun x : Value => x) (g + 1) W' (.slice (some ⟨g, 0, none⟩) 3 3) [.slice a1 n1 c1, .slice a2 n2 c2, .slice a3 n3 c3] → Kp none' w W' → w.heap.size ≤ g → K (a.put (some d) (.slice (some ⟨g, 0, none⟩) 3 3)) W') :
    if Region.wanted o (yielded ops a.tmps) = true then Oper.wp Try.prog o a w K Q else E := by
  have hw : Region.wanted o (yielded ops a.tmps) = true := by simp [Region.wanted, hgd]
  rw [if_pos hw]
  have h1 := h _ w.heap.size (parts_new w [.slice a1 n1 c1, .slice a2 n2 c2, .slice a3 n3 c3] 23 w.heap.size 3 rfl rfl (by omega)) (Kp.alloc _ _ _) (Nat.le_refl _)
  clear h
  obtain ⟨dst, op, type, pos, after, guard⟩ := o
  dsimp only at hgd hd ho
  subst hgd hd ho
  unfold Oper.wp execOp
  dsimp only
  simp only [List.map_toArray, List.map_cons, List.map_nil, hx, hy, hz]
  go_simp
  first | exact h1 | (simp only [Act.put] at h1 ⊢; exact h1)
set_option maxRecDepth 100000 in
theorem nstep_partsI {w : World} {ops : Array Oper} {o : Oper} {a : Act} {K : Act → World → Prop} {Q : Exit → Act → World → Prop} {E : Prop} {d : Nat} (hgd : o.guard = none) (hd : o.dst = some d) (x y : Operand) (ho : o.op = .buildSlice 95 2 #[(0, x), (1, y)]) {a1 a2 : Option Addr} {n1 c1 n2 c2 : Nat} (hx : a.eval x = .slice a1 n1 c1) (hy : a.eval y = .slice a2 n2 c2)
    (h : ∀ W' g, Sl (fun x : Value => x) (g + 1) W' (.slice (some ⟨g, 0, none⟩) 2 2) [.slice a1 n1 c1, .slice a2 n2 c2] → Kp none' w W' → w.heap.size ≤ g → K (a.put (some d) (.slice (some ⟨g, 0, none⟩) 2 2)) W') :
    if Region.wanted o (yielded ops a.tmps) = true then Oper.wp Try.prog o a w K Q else E := by
  have hw : Region.wanted o (yielded ops a.tmps) = true := by simp [Region.wanted, hgd]
  rw [if_pos hw]
  have h1 := h _ w.heap.size (parts_new w [.slice a1 n1 c1, .slice a2 n2 c2] 24 w.heap.size 2 rfl rfl (by omega)) (Kp.alloc _ _ _) (Nat.le_refl _)
  clear h
  obtain ⟨dst, op, type, pos, after, guard⟩ := o
  dsimp only at hgd hd ho
  subst hgd hd ho
  unfold Oper.wp execOp
  dsimp only
  simp only [List.map_toArray, List.map_cons, List.map_nil, hx, hy]
  go_simp
  first | exact h1 | (simp only [Act.put] at h1 ⊢; exact h1)
/-- A node is stored whole, in a region that does not draw. -/
theorem nwpList_store_nb {w : World} {ops : Array Oper} {rest : List Oper} {o : Oper} {a : Act} {Q : Exit → Act → World → Prop} (hgd : o.guard = none) (hd : o.dst = none) (p x : Operand) (ho : o.op = .store 26 p x) (g : Nat) (hp : a.eval p = .pointer (some ⟨g, 0, none⟩)) {l l' : Bool} {pv kv dv : Value} {a1 a2 a3 : Option Addr} {n1 c1 n2 c2 n3 c3 : Nat}
    (hx : a.eval x = .agg #[.bool l', .slice a1 n1 c1, .slice a2 n2 c2, .slice a3 n3 c3]) (hN : Nb w g l pv kv dv)
    (h : ∀ W', Nb W' g l' (.slice a1 n1 c1) (.slice a2 n2 c2) (.slice a3 n3 c3) → Kp (only g) w W' → wpList Try.prog ops Q rest a W') : wpList Try.prog ops Q (o :: rest) a w := by
  refine wpList_plain hgd fun K hK => ?_
  have := nstep_store_nb (ops := #[]) (K := K) (Q := Q) (E := True) hgd hd p x ho g hp hx hN (fun W' h1 h2 => hK _ _ (h W' h1 h2))
  have hw : Region.wanted o (yielded #[] a.tmps) = true := by simp [Region.wanted, hgd]
  rw [if_pos hw] at this
  exact this

end Go.Proofs.Ytjmkfkmdafjgnaa
