/- Instructions in blocks of their own: stored whole, or with another value; three numbers, one of them stored; a result in a cell beside one in a slot. No conditions but those that each theorem states. -/
import Derived.Test.YthopmlgfklhagaaGreatDoorIOp
import Derived.Test.YthopmlgfklhagaaGreatDoorKRead
namespace Go.Proofs.YthopmlgfklhagaaGreatDoor
open Go.RowKit
set_option linter.unusedVariables false

/-- A world with seven cells stored. -/
def put7 (w : World) (q : Nat) (x : In) : World :=
  ((((((w.setCell ⟨q, 0, none⟩ (.int .i64 x.op)).setCell ⟨q, 1, none⟩ (.int .i64 x.a)).setCell ⟨q, 2, none⟩ (.int .i64 x.b)).setCell ⟨q, 3, none⟩ (.int .i64 x.c)).setCell ⟨q, 4, none⟩ (.int .i64 x.v.k)).setCell ⟨q, 5, none⟩ (.int .i64 x.v.n)).setCell ⟨q, 6, none⟩ (.string x.v.s)
theorem grown_set (w : World) (q j : Nat) (v : Value) : w.grownBy (w.setCell ⟨q, j, none⟩ v) (some q) := ⟨rfl, rfl, rfl, by simp, fun k _ hk => heap_setCell_other w _ k _ (fun hb => hk (by simp [hb]))⟩
theorem Ib.put7 {w : World} {q : Nat} {x : In} (h : Ib w q x) (y : In) : Ib (put7 w q y) q y ∧ w.grownBy (Go.Proofs.YthopmlgfklhagaaGreatDoor.put7 w q y) (some q) := by
  constructor
  · unfold Ib at h ⊢
    have h1 := heap_setCell_same w q 0 _ 35 (.int .i64 y.op) h
    have h2 := heap_setCell_same _ q 1 _ 35 (.int .i64 y.a) h1
    have h3 := heap_setCell_same _ q 2 _ 35 (.int .i64 y.b) h2
    have h4 := heap_setCell_same _ q 3 _ 35 (.int .i64 y.c) h3
    have h5 := heap_setCell_same _ q 4 _ 35 (.int .i64 y.v.k) h4
    have h6 := heap_setCell_same _ q 5 _ 35 (.int .i64 y.v.n) h5
    have h7 := heap_setCell_same _ q 6 _ 35 (.string y.v.s) h6
    unfold Go.Proofs.YthopmlgfklhagaaGreatDoor.put7
    rw [h7]
    rfl
  · unfold Go.Proofs.YthopmlgfklhagaaGreatDoor.put7
    exact grown_trans (grown_trans (grown_trans (grown_trans (grown_trans (grown_trans (grown_set _ _ _ _) (grown_set _ _ _ _) (.inl rfl)) (grown_set _ _ _ _) (.inl rfl)) (grown_set _ _ _ _) (.inl rfl)) (grown_set _ _ _ _) (.inl rfl)) (grown_set _ _ _ _) (.inl rfl)) (grown_set _ _ _ _) (.inl rfl)
def zI : In := ⟨0, 0, 0, 0, zV⟩
/-- Three numbers, one of them stored. -/
theorem Ab.put {w : World} {q : Nat} {x y z : Int} (h : Ab w q x y z) (k : Nat) (hk : k < 3) (v : Int) :
    Ab (w.setCell ⟨q, k, none⟩ (.int .i64 v)) q (if k = 0 then v else x) (if k = 1 then v else y) (if k = 2 then v else z) ∧ w.grownBy (w.setCell ⟨q, k, none⟩ (.int .i64 v)) (some q) ∧ ∃ u, w.cell? ⟨q, k, none⟩ = some u := by
  refine ⟨?_, grown_set _ _ _ _, ?_⟩
  · unfold Ab at h ⊢
    rcases (by omega : k = 0 ∨ k = 1 ∨ k = 2) with rfl | rfl | rfl <;> rw [heap_setCell_same w q _ _ 57 _ h] <;> rfl
  · obtain ⟨c0, c1, c2⟩ := h.cs
    rcases (by omega : k = 0 ∨ k = 1 ∨ k = 2) with rfl | rfl | rfl
    · exact ⟨_, c0⟩
    · exact ⟨_, c1⟩
    · exact ⟨_, c2⟩
/-- An instruction with another value. -/
def In.setV (x : In) (v : V) : In := ⟨x.op, x.a, x.b, x.c, v⟩
def put3 (w : World) (m : Nat) (v : V) : World := ((w.setCell ⟨m, 4, none⟩ (.int .i64 v.k)).setCell ⟨m, 5, none⟩ (.int .i64 v.n)).setCell ⟨m, 6, none⟩ (.string v.s)
theorem Ib.put3 {w : World} {m : Nat} {x : In} (h : Ib w m x) (v : V) : Ib (put3 w m v) m (x.setV v) ∧ w.grownBy (Go.Proofs.YthopmlgfklhagaaGreatDoor.put3 w m v) (some m) := by
  constructor
  · unfold Ib at h ⊢
    have h5 := heap_setCell_same w m 4 _ 35 (.int .i64 v.k) h
    have h6 := heap_setCell_same _ m 5 _ 35 (.int .i64 v.n) h5
    have h7 := heap_setCell_same _ m 6 _ 35 (.string v.s) h6
    unfold Go.Proofs.YthopmlgfklhagaaGreatDoor.put3
    rw [h7]
    rfl
  · unfold Go.Proofs.YthopmlgfklhagaaGreatDoor.put3
    exact grown_trans (grown_trans (grown_set _ _ _ _) (grown_set _ _ _ _) (.inl rfl)) (grown_set _ _ _ _) (.inl rfl)
theorem results_ib2 {fn : Func} {p u : Tmp} (h : fn.results = #[.cell p 35, .tmp u]) (tmps : Array Value) (g : Nat) (W : World) (x : In) (er : Value) (hp : tmps.getD p undef = .pointer (some ⟨g, 0, none⟩)) (hu : tmps.getD u undef = er) (hV : Ib W g x) :
    (results fn tmps).run Tryz.prog W = .ok (.tuple #[x.val, er]) W := by
  rw [results_cell_tmp h, hp, hu]
  simp [asAddr, Result.andThen, load_ib hV]

end Go.Proofs.YthopmlgfklhagaaGreatDoor
