/- The loop over a device's map: range, the step, the round's entry, clear. Conditions: those that each theorem states. -/
import Derived.Test.YtgfijbbibafdfaaGreatDNew
namespace Go.Proofs.YtgfijbbibafdfaaGreat
open Go.RowKit
open Go.ChangeMaps (setBlock)
set_option linter.unusedVariables false

/-- How many entries are still to come. -/
def itLeft (w : World) (r : Nat) (es : Array MapEntry) : Nat := match w.heap[r]? with | some (.mapIter _ _ seen _) => (leftOf es seen).size | _ => 0
theorem itLeft_eq {w : World} {r m cl c0 : Nat} {seen : Array Nat} (es : Array MapEntry) (hr : w.heap[r]? = some (.mapIter (some m) cl seen c0)) : itLeft w r es = (leftOf es seen).size := by
  unfold itLeft
  rw [hr]

theorem wpList_range_at {P : Program} {w : World} {ops : Array Oper} {rest : List Oper} {o : Oper} {a : Act} {Q : Exit → Act → World → Prop} (hgd : o.guard = none) (l : Operand) (t : TypeId) (ho : o.op = .range t l)
    (v : Value) (hd : a.eval l = v) {v' : Value} {w' : World} (hr : (Instr.range t v).run P w = .ok v' w') (h : wpList P ops Q rest (a.put o.dst v') w') : wpList P ops Q (o :: rest) a w :=
  wpList_plain hgd fun _ hK => by
    unfold Oper.wp execOp
    simp only [ho, Sem.run_bind, Sem.run_pure, Result.andThen_ok, hd, hr]
    exact hK _ _ h

theorem wpList_next_it {w : World} {ops : Array Oper} {rest : List Oper} {o : Oper} {a : Act} {Q : Exit → Act → World → Prop} (hgd : o.guard = none) (it : Operand) (ho : o.op = .next it false) (r m cl c0 : Nat) (seen : Array Nat) (es : Array MapEntry) (u : Nat → Option (List UInt8))
    (hit : a.eval it = .pointer (some ⟨r, 0, none⟩)) (hr : w.heap[r]? = some (.mapIter (some m) cl seen c0)) (hm : w.heap[m]? = some (.map es cl)) (hM : Mp u es.toList cl) (hsc : cl ≤ c0)
    (hDone : (leftOf es seen).size = 0 → wpList Tryz.prog ops Q rest (a.put o.dst (.tuple #[.bool false])) w)
    (hMore : ∀ (e : MapEntry) (i : Nat) (x : List UInt8) (w2 : World), e ∈ es.toList → seen.contains e.born = false → u i = some x → e.key = .int .i64 (i : Int) → Kp (only r) w w2 → w2.heap.size = w.heap.size →
      w2.heap[r]? = some (.mapIter (some m) cl (seen.push e.born) cl) → (Instr.entry (.pointer (some ⟨r, 0, none⟩))).run Tryz.prog w2 = .ok (.tuple #[.int .i64 (i : Int), .agg (bcs x).toArray]) w2 →
      (leftOf es (seen.push e.born)).size < (leftOf es seen).size → wpList Tryz.prog ops Q rest (a.put o.dst (.tuple #[.bool true, .int .i64 (i : Int), .agg (bcs x).toArray])) w2) :
    wpList Tryz.prog ops Q (o :: rest) a w :=
  wpList_plain hgd fun _ hK => by
    unfold Oper.wp
    rcases run_next_at (P := Tryz.prog) w o.type r m cl c0 seen es cl hr hm hM.e4 hsc with ⟨h0, hrun⟩ | ⟨e, he, w1, hal, hrun⟩
    · simp [execOp, ho, hit, hrun, Result.andThen]
      exact hK _ _ (hDone h0)
    · obtain ⟨hem, hes⟩ := mem_left he
      obtain ⟨i, x, hu, hk, hv⟩ := hM.e1 e hem
      have hne : m ≠ r := by
        intro h
        rw [h, hr] at hm
        cases hm
      have hw1 : Kp none' w w1 := by rcases hal with rfl | rfl; exact Kp.refl _ _; exact Kp.drew _ _
      have hsz : w1.heap.size = w.heap.size := by rcases hal with rfl | rfl <;> rfl
      have hr1 : w1.heap[r]? = some (.mapIter (some m) cl seen c0) := by rcases hal with rfl | rfl <;> exact hr
      have hm1 : w1.heap[m]? = some (.map es cl) := by rcases hal with rfl | rfl <;> exact hm
      have hr2 : (setBlock w1 r (.mapIter (some m) cl (seen.push e.born) cl)).heap[r]? = some (.mapIter (some m) cl (seen.push e.born) cl) := (MapKept.heap_set hr1).1
      have hm2 : (setBlock w1 r (.mapIter (some m) cl (seen.push e.born) cl)).heap[m]? = some (.map es cl) := ((MapKept.heap_set hr1).2 m hne).trans hm1
      have hen := run_entry_at (P := Tryz.prog) _ r m cl seen es cl e hr2 hm2 hem hM.e5
      rw [hk, hv] at hrun hen
      simp [execOp, ho, hit, hrun, Result.andThen]
      exact hK _ _ (hMore e i x _ hem hes hu hk (hw1.nThen (Kp.setBlock _ _ _ rfl)) (by simp [ChangeMaps.setBlock, hsz]) hr2 hen (left_shrinks es seen e he))

end Go.Proofs.YtgfijbbibafdfaaGreat
