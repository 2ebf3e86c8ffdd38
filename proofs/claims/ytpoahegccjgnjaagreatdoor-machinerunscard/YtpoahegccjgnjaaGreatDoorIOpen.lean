/- How instructions that came in lie in memory: their reading opened, one by one; and the table of operands, as the program's text lays it. No conditions but those that each theorem states. -/
import Derived.Test.YtpoahegccjgnjaaGreatDoorRows
import Derived.Test.YtpoahegccjgnjaaGreatDoorIDefs
import Derived.Test.YtpoahegccjgnjaaGreatDoorKOpen
import Derived.Lib.LaidTab
namespace Go.Proofs.YtpoahegccjgnjaaGreatDoor
open Go.ChangeShapes Go.WideShapes Go.ChangeAt Go.RowKit Go.Joins Go.Deep
set_option linter.unusedVariables false

theorem cellsIn : Tryz.prog.cellsOf 44 = 7 := by kernel_rfl
theorem cellsIi : Tryz.prog.cellsOf 3 = 1 := by kernel_rfl
theorem trod_struct5I {H : Type} {enc : TypeId × Value → H} {P : Program} {w : World} {base : Nat} {spare : Nat → Bool} {held : Bool} {t : TypeId} {f0 f1 f2 f3 f4 : Field} {fuel : Nat} {cs : List Value} {x : DataW H × List MemPlace} (ht : P.underlying t = some (.struct #[f0, f1, f2, f3, f4])) (h : DataW.trod enc P w base spare held fuel t cs = some x) :
    ∃ y0 y1 y2 y3 y4 n, cs.length = P.cellsOf t ∧ DataW.trod enc P w base spare held n f0.type ((cs.drop f0.offset).take (P.cellsOf f0.type)) = some y0 ∧
      DataW.trod enc P w base spare held n f1.type ((cs.drop f1.offset).take (P.cellsOf f1.type)) = some y1 ∧ DataW.trod enc P w base spare held n f2.type ((cs.drop f2.offset).take (P.cellsOf f2.type)) = some y2 ∧
      DataW.trod enc P w base spare held n f3.type ((cs.drop f3.offset).take (P.cellsOf f3.type)) = some y3 ∧ DataW.trod enc P w base spare held n f4.type ((cs.drop f4.offset).take (P.cellsOf f4.type)) = some y4 := by
  obtain ⟨xs, n, _, rfl, hl, hlen, hf⟩ := DataW.trod_struct ht h
  match xs, hlen with
  | [y0, y1, y2, y3, y4], _ => exact ⟨y0, y1, y2, y3, y4, n, hl, by simpa using hf 0 f0 rfl, by simpa using hf 1 f1 rfl, by simpa using hf 2 f2 rfl, by simpa using hf 3 f3 rfl, by simpa using hf 4 f4 rfl⟩
theorem irOf {n : Int} (h : (Lit.int .i64 n).wf = true) : ir n := by
  simp [Lit.wf, IntKind.min, IntKind.max, IntKind.signed, IntKind.bits] at h
  unfold ir
  omega
set_option maxRecDepth 100000 in
theorem open_inst {H : Type} {enc : TypeId × Value → H} {W : World} {base fuel : Nat} {spare : Nat → Bool} {held : Bool} {cs : List Value} {x : DataW H × List MemPlace} (h : DataW.trod enc Tryz.prog W base spare held fuel 44 cs = some x) :
    ∃ v : In, cs = In.cells v ∧ v.wf := by
  obtain ⟨y0, y1, y2, y3, y4, n, hl, h0, h1, h2, h3, h4⟩ := trod_struct5I Tryz.underlying44 h
  rw [cellsIn] at hl
  match cs, hl with
  | [c0, c1, c2, c3, c4, c5, c6], _ =>
    obtain ⟨a0, e0, _, w0⟩ := DataW.trod_int Tryz.underlying3 h0
    obtain ⟨a1, e1, _, w1⟩ := DataW.trod_int Tryz.underlying3 h1
    obtain ⟨a2, e2, _, w2⟩ := DataW.trod_int Tryz.underlying3 h2
    obtain ⟨a3, e3, _, w3⟩ := DataW.trod_int Tryz.underlying3 h3
    obtain ⟨v, e4, _, w4⟩ := open_val h4
    simp [cellsIi] at e0 e1 e2 e3
    have e4' : [c4, c5, c6] = [.int .i64 v.k, .int .i64 v.n, .string v.s] := by
      rw [cellsV] at e4
      simpa using e4
    simp only [List.cons.injEq, and_true] at e4'
    obtain ⟨e5, e6, e7⟩ := e4'
    subst e0 e1 e2 e3 e5 e6 e7
    exact ⟨⟨a0, a1, a2, a3, v⟩, rfl, w4, irOf w0, irOf w1, irOf w2, irOf w3⟩

set_option maxRecDepth 100000 in
theorem open_insts {H : Type} {enc : TypeId × Value → H} {W : World} {a0 : Option Addr} {len cap : Nat} {d : DataW H} {p : List MemPlace} (h : DataW.Trod enc Tryz.prog W 0 (fun _ => true) true 22 (.slice a0 len cap) d p) :
    ∃ l : List In, Ins W (.slice a0 len cap) l ∧ (∀ x ∈ l, x.wf) := by
  obtain ⟨fuel, hf⟩ := h
  rcases open_slice Tryz.underlying22 hf with ⟨hcs, hx⟩ | ⟨a, l, c, m, n, D, Pl, hcs, _, hl, hm, hmm, hx, hel⟩
  · simp [Value.cells] at hcs
    obtain ⟨rfl, rfl, rfl⟩ := hcs
    exact ⟨[], Ins.nil W, by simp⟩
  · simp [Value.cells] at hcs
    obtain ⟨rfl, rfl, rfl⟩ := hcs
    simp only [if_true] at hmm
    subst hmm
    rw [cellsIn] at hel
    haveI : Inhabited In := ⟨⟨0, 0, 0, 0, zV⟩⟩
    obtain ⟨th, hth⟩ := choose_lt (α := In) (n := len) (p := fun i x => W.cells? 0 (a.add (i * 7)) 7 = some (In.cells x) ∧ x.wf) (fun i hi => by
      obtain ⟨cs', h1, h2⟩ := hel i (by omega)
      obtain ⟨x, rfl, h4⟩ := open_inst h2
      exact ⟨x, h1, h4⟩)
    obtain ⟨b, off, spot⟩ := a
    have cells : ∀ i, i < len → ∀ j u, (In.cells (th i))[j]? = some u → W.cell? (((⟨b, off, spot⟩ : Addr).add (i * 7)).add j) = some u := by
      intro i hi j u hu
      have h1 := (hth i hi).1
      have hj : j < 7 := by have := (List.getElem?_eq_some_iff.1 hu).1; simpa [In.cells] using this
      rw [(World.cells?_some h1).2.2 j hj]
      exact hu
    refine ⟨(List.range len).map th, ⟨some ⟨b, off, spot⟩, m, by simp, by simpa using hl, hm, ?_⟩, ?_⟩
    · intro i hi
      have hi' : i < len := by simpa using hi
      have hspot : spot = none := by simpa [Addr.add] using World.cell?_spot (cells 0 (by omega) 0 _ rfl)
      subst hspot
      have plain2 : ∀ o q, (⟨b, o, none⟩ : Addr).add q = ⟨b, o + q, none⟩ := by intro o q; unfold Addr.add; split <;> simp_all
      have g := cells i hi'
      simp only [plain2] at g
      have e : ((List.range len).map th)[i] = th i := by simp
      refine ⟨b, off, rfl, ?_, fun j u hu => ?_⟩
      · have := g 0 _ rfl
        rcases Nat.lt_or_ge b W.heap.size with h | h
        · exact h
        · exfalso
          have hn : W.heap[b]? = none := Array.getElem?_eq_none h
          simp [World.cell?, hn] at this
      · rw [e] at hu
        exact g j u hu
    · intro x hx'
      obtain ⟨i, hi, rfl⟩ := List.mem_map.1 hx'
      exact (hth i (by simpa using hi)).2

set_option maxRecDepth 100000 in
/-- An instruction that came in by value. -/
theorem open_instv {H : Type} {enc : TypeId × Value → H} {W : World} {base : Nat} {v : Value} {d : DataW H} {p : List MemPlace} (hok : Value.okWide Tryz.prog W .any base 44 v) (h : DataW.Trod enc Tryz.prog W 0 (fun _ => true) true 44 v d p) :
    ∃ x : In, v = x.val ∧ x.wf := by
  obtain ⟨cs, rfl, hsz⟩ := okWide_struct Tryz.underlying44 hok
  obtain ⟨fuel, hf⟩ := h
  obtain ⟨x, e, hx⟩ := open_inst hf
  obtain ⟨l⟩ := cs
  simp [Value.cells] at e
  subst e
  exact ⟨x, rfl, hx⟩

theorem gOps : Tryz.prog.globalNamed "factotum/code.operands" = some 0 := by kernel_rfl
theorem gOpsType : (Tryz.prog.globals[0]?).map (·.type) = some 132 := by kernel_rfl
theorem cellsTab : Tryz.prog.cellsOf 132 = 20 := by kernel_rfl
set_option maxRecDepth 100000 in
/-- From the row's condition to the table as it lies in memory. -/
theorem glob_of {W : World} (h : laidMet Tryz.prog [("factotum/code.operands", Rows.laid_factotum_code_operands)] W) : Glob W := by
  have hT : Lib.TabIs Tryz.prog W "factotum/code.operands" .i64 tabO := Lib.tabIs_of_head (rest := []) gOps gOpsType Tryz.underlying132 Tryz.underlying3 cellsIi cellsTab h
  have hc : ∀ i, i < 20 → W.cell? ⟨0, i, none⟩ = some (.int .i64 (tabO.getD i 0)) := fun i hi => hT.cell gOps i (by simp [tabO]; omega)
  exact ⟨lt_of_cell (hc 0 (by omega)), hc⟩

end Go.Proofs.YtpoahegccjgnjaaGreatDoor
