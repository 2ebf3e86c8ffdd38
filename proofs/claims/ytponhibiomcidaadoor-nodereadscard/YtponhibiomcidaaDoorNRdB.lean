/- Steps of a region that draws its order: slices that are made, and cells that are stored. Conditions: those that each theorem states. -/
import Derived.Test.YtponhibiomcidaaDoorNRdA
import Derived.Test.YtponhibiomcidaaDoorNRefR
namespace Go.Proofs.YtponhibiomcidaaDoor
open Go Go.RowKit
set_option linter.unusedVariables false

theorem make_one {α : Type} (f : α → Value) (z : α) (t e : TypeId) (by_ : Nat) (ht : Tryd.prog.underlying t = some (.slice e)) (hinfo : (Tryd.prog.info? e).map (fun i => (i.zero, i.size, i.bytes)) = some (some (f z), 1, by_)) (hby : by_ ≤ 64) (hz : (f z).cells = #[f z]) (w : World) (n : Nat) (hn : n ≤ 1000000) : ∃ wa, (Instr.makeSlice t (.int .i64 n) (.int .i64 n)).run Tryd.prog w = .ok (.slice (some ⟨w.heap.size, 0, none⟩) n n) wa ∧ Ow f e wa w.heap.size (.slice (some ⟨w.heap.size, 0, none⟩) n n) (List.replicate n z) ∧ Kp none' w wa := by
  obtain ⟨i0, hi, hz0, hz1, hz2⟩ := info_parts hinfo
  obtain ⟨wa, hmk, hOa, hga⟩ := run_make_full (P := Tryd.prog) w w.heap.size t e i0 _ 1 ht hi hz0 hz1 .i64 .i64 n (by
    rw [hz2]
    have : by_ * n ≤ 64 * 1000000 := Nat.mul_le_mul hby hn
    omega) (by unfold maxLen; omega) (Nat.le_refl _)
  refine ⟨wa, hmk, ?_, Kp.ofN hga _⟩
  have e1 : (madeCells (f z).cells (n * 1)).toList = (List.replicate n z).map f := by
    rw [hz, toList_madeCells_one]
    simp
  unfold Ow
  rw [List.length_replicate, ← e1]
  exact hOa
theorem nstep_make {P : Program} {w : World} {ops : Array Oper} {o : Oper} {a : Act} {K : Act → World → Prop} {Q : Exit → Act → World → Prop} {E : Prop} {d : Nat} (hgd : o.guard = none) (hd : o.dst = some d) (l : Operand) (t : TypeId) (ho : o.op = .makeSlice t l l)
    (v : Value) (hl : a.eval l = v) {v' : Value} {w' : World} (hr : (Instr.makeSlice t v v).run P w = .ok v' w') (h : K (a.put (some d) v') w') : if Region.wanted o (yielded ops a.tmps) = true then Oper.wp P o a w K Q else E := by
  have hw : Region.wanted o (yielded ops a.tmps) = true := by simp [Region.wanted, hgd]
  rw [if_pos hw]
  unfold Oper.wp execOp
  simp only [ho, Sem.run_bind, Sem.run_pure, Result.andThen_ok, hl, hr]
  rw [← hd] at h
  exact h
theorem Ow.isn {α : Type} {f : α → Value} {e : TypeId} {w : World} {base g n cap : Nat} {l : List α} (h : Ow f e w base (.slice (some ⟨g, 0, none⟩) n cap) l) : n = l.length := by
  rcases h.2 with ⟨h1, _⟩ | ⟨g', cap', cur, h1, _⟩
  · cases h1
  · cases h1; rfl
theorem Ow.cellA {α : Type} {f : α → Value} {e : TypeId} {w : World} {base g n cap : Nat} {l : List α} (h : Ow f e w base (.slice (some ⟨g, 0, none⟩) n cap) l) (j : Nat) (hj : j < l.length) : w.cell? ⟨g, j, none⟩ = some (f l[j]) ∧ w.frozen? ⟨g, j, none⟩ = false := by
  have hn := h.isn
  subst hn
  exact row_cell (e := e) (sz := 1) h j (f l[j]) (by simp [hj])
theorem Ow.lt1 {α : Type} {f : α → Value} {e : TypeId} {w : World} {base g n cap : Nat} {l : List α} (h : Ow f e w base (.slice (some ⟨g, 0, none⟩) n cap) l) : base ≤ g ∧ g < w.heap.size := h.lt g rfl
set_option maxRecDepth 100000 in
theorem nstep_store_i {w : World} {ops : Array Oper} {o : Oper} {a : Act} {K : Act → World → Prop} {Q : Exit → Act → World → Prop} {E : Prop} (hgd : o.guard = none) (hd : o.dst = none) (p x : Operand) (ho : o.op = .store 3 p x) (g j : Nat) (hp : a.eval p = .pointer (some ⟨g, j, none⟩)) (z : Int) (hx : a.eval x = .int .i64 z) {n cap base : Nat} {l : List Int}
    (hO : Ow (Value.int .i64) 3 w base (.slice (some ⟨g, 0, none⟩) n cap) l) (hj : j < l.length)
    (h : ∀ W', Ow (Value.int .i64) 3 W' base (.slice (some ⟨g, 0, none⟩) n cap) (l.set j z) → Kp (only g) w W' → K a W') :
    if Region.wanted o (yielded ops a.tmps) = true then Oper.wp Tryd.prog o a w K Q else E := by
  have hw : Region.wanted o (yielded ops a.tmps) = true := by simp [Region.wanted, hgd]
  rw [if_pos hw]
  have hs := hO.stored j z
  have h1 := h _ hs.1 (Kp.ofGrown hs.2 (fun k hk _ => by cases hk; rfl))
  obtain ⟨hc, hf⟩ := hO.cellA j hj
  clear h hs hO
  obtain ⟨dst, op, type, pos, after, guard⟩ := o
  dsimp only at hgd hd ho
  subst hgd hd ho
  unfold Oper.wp execOp
  dsimp only
  simp only [hp, hx]
  go_simp
  first | exact h1 | (simp only [Act.put] at h1 ⊢; exact h1)
set_option maxRecDepth 100000 in
theorem nstep_store_s {w : World} {ops : Array Oper} {o : Oper} {a : Act} {K : Act → World → Prop} {Q : Exit → Act → World → Prop} {E : Prop} (hgd : o.guard = none) (hd : o.dst = none) (p x : Operand) (ho : o.op = .store 9 p x) (g j : Nat) (hp : a.eval p = .pointer (some ⟨g, j, none⟩)) (z : ByteArray) (hx : a.eval x = .string z) {n cap base : Nat} {l : List ByteArray}
    (hO : Ow Value.string 9 w base (.slice (some ⟨g, 0, none⟩) n cap) l) (hj : j < l.length)
    (h : ∀ W', Ow Value.string 9 W' base (.slice (some ⟨g, 0, none⟩) n cap) (l.set j z) → Kp (only g) w W' → K a W') :
    if Region.wanted o (yielded ops a.tmps) = true then Oper.wp Tryd.prog o a w K Q else E := by
  have hw : Region.wanted o (yielded ops a.tmps) = true := by simp [Region.wanted, hgd]
  rw [if_pos hw]
  have hs := hO.stored j z
  have h1 := h _ hs.1 (Kp.ofGrown hs.2 (fun k hk _ => by cases hk; rfl))
  obtain ⟨hc, hf⟩ := hO.cellA j hj
  clear h hs hO
  obtain ⟨dst, op, type, pos, after, guard⟩ := o
  dsimp only at hgd hd ho
  subst hgd hd ho
  unfold Oper.wp execOp
  dsimp only
  simp only [hp, hx]
  go_simp
  first | exact h1 | (simp only [Act.put] at h1 ⊢; exact h1)

end Go.Proofs.YtponhibiomcidaaDoor
