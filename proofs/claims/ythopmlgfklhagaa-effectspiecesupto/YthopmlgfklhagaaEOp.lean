/- What the arguments of layer 17's laws are, as they come in: a value, a record, effects. Conditions: those that each theorem states. -/
import Derived.Test.YthopmlgfklhagaaKOpen
import Derived.Test.YthopmlgfklhagaaELv
namespace Go.Proofs.Ythopmlgfklhagaa
open Go.ChangeShapes Go.WideShapes Go.ChangeAt Go.RowKit Go.Joins Go.Deep
set_option linter.unusedVariables false

theorem cellsRc : Try.prog.cellsOf 33 = 8 := by kernel_rfl
theorem cellsEf : Try.prog.cellsOf 40 = 10 := by kernel_rfl
theorem cellsI9 : Try.prog.cellsOf 3 = 1 := by kernel_rfl
theorem cellsPw : Try.prog.cellsOf 34 = 1 := by kernel_rfl
theorem cellsVs9 : Try.prog.cellsOf 35 = 1 := by kernel_rfl
theorem cellsSp : Try.prog.cellsOf 36 = 1 := by kernel_rfl
theorem cellsFr9 : Try.prog.cellsOf 38 = 2 := by kernel_rfl
theorem irOf9 {n : Int} (h : (Lit.int .i64 n).wf = true) : ir n := by
  simp [Lit.wf, IntKind.min, IntKind.max, IntKind.signed, IntKind.bits] at h
  unfold ir
  omega
set_option maxRecDepth 100000 in
theorem open_valv9 {H : Type} {enc : TypeId × Value → H} {W : World} {base : Nat} {v : Value} {d : DataW H} {p : List MemPlace} (hok : Value.okWide Try.prog W .any base 24 v) (h : DataW.Trod enc Try.prog W 0 (fun _ => true) true 24 v d p) :
    ∃ x : V, v = x.val ∧ x.wf := by
  obtain ⟨cs, rfl, hsz⟩ := okWide_struct Try.underlying24 hok
  obtain ⟨fuel, hf⟩ := h
  obtain ⟨x, e, _, hx⟩ := open_val hf
  obtain ⟨l⟩ := cs
  simp [Value.cells] at e
  subst e
  exact ⟨x, rfl, hx⟩
set_option maxRecDepth 100000 in
theorem open_rcv {H : Type} {enc : TypeId × Value → H} {W : World} {base : Nat} {v : Value} {d : DataW H} {p : List MemPlace} (hok : Value.okWide Try.prog W .any base 33 v) (h : DataW.Trod enc Try.prog W 0 (fun _ => true) true 33 v d p) :
    ∃ x : Rc9, v = x.val ∧ x.wf := by
  obtain ⟨cs, rfl, hsz⟩ := okWide_struct Try.underlying33 hok
  obtain ⟨fuel, hf⟩ := h
  obtain ⟨xs, n, _, _, hl, hlen, hfl⟩ := DataW.trod_struct Try.underlying33 hf
  obtain ⟨l⟩ := cs
  rw [cellsRc] at hl
  match xs, hlen with
  | [y0, y1, y2, y3, y4, y5], _ =>
    have h0 := hfl 0 _ rfl
    have h1 := hfl 1 _ rfl
    have h2 := hfl 2 _ rfl
    have h3 := hfl 3 _ rfl
    have h4 := hfl 4 _ rfl
    have h5 := hfl 5 _ rfl
    match l, hl with
    | [c0, c1, c2, c3, c4, c5, c6, c7], _ =>
      obtain ⟨a0, e0, _, w0⟩ := DataW.trod_int Try.underlying3 (by simpa using h0)
      obtain ⟨v, e1', _, w1⟩ := open_val (enc := enc) (W := W) (base := 0) (fuel := n) (spare := fun _ => true) (held := true) (cs := [c1, c2, c3]) (x := y1) (by simpa [cellsV, Value.cells] using h1)
      obtain ⟨a2, e2, _, w2⟩ := DataW.trod_int Try.underlying2 (by simpa using h2)
      obtain ⟨a3, e3, _, w3⟩ := DataW.trod_int Try.underlying3 (by simpa using h3)
      obtain ⟨a4, e4, _, w4⟩ := DataW.trod_int Try.underlying3 (by simpa using h4)
      obtain ⟨a5, e5, _, w5⟩ := DataW.trod_int Try.underlying3 (by simpa using h5)
      simp [cellsI9, cellsN, Value.cells] at e0 e2 e3 e4 e5
      simp only [List.cons.injEq, and_true] at e1'
      obtain ⟨e6, e7, e8⟩ := e1'
      subst e0 e2 e3 e4 e5 e6 e7 e8
      exact ⟨⟨a0, v, a2, a3, a4, a5⟩, rfl, irOf9 w0, w1, irOf9 w2, irOf9 w3, irOf9 w4, irOf9 w5⟩
theorem slice_of {H : Type} {enc : TypeId × Value → H} {W : World} {t e : TypeId} {n : Nat} {c : Value} {y : DataW H × List MemPlace} (ht : Try.prog.underlying t = some (.slice e)) (h : DataW.trod enc Try.prog W 0 (fun _ => true) true n t [c] = some y) : ∃ a0 len cap, c = .slice a0 len cap := by
  rcases open_slice ht h with ⟨hcs, _⟩ | ⟨a, l, c, _, _, _, _, hcs, _⟩
  · simp at hcs; exact ⟨_, _, _, hcs⟩
  · simp at hcs; exact ⟨_, _, _, hcs⟩
set_option maxRecDepth 100000 in
theorem open_efv {H : Type} {enc : TypeId × Value → H} {W : World} {base : Nat} {v : Value} {d : DataW H} {p : List MemPlace} (hok : Value.okWide Try.prog W .any base 40 v) (h : DataW.Trod enc Try.prog W 0 (fun _ => true) true 40 v d p) :
    ∃ a1 l1 m1 a2 l2 m2 a3 l3 m3 sl en x pc rv, v = efV a1 l1 m1 a2 l2 m2 a3 l3 m3 sl en x pc rv := by
  obtain ⟨cs, rfl, hsz⟩ := okWide_struct Try.underlying40 hok
  obtain ⟨fuel, hf⟩ := h
  obtain ⟨xs, n, _, _, hl, hlen, hfl⟩ := DataW.trod_struct Try.underlying40 hf
  obtain ⟨l⟩ := cs
  rw [cellsEf] at hl
  match xs, hlen with
  | [y0, y1, y2, y3, y4, y5, y6], _ =>
    have h0 := hfl 0 _ rfl
    have h1 := hfl 1 _ rfl
    have h2 := hfl 2 _ rfl
    have h3 := hfl 3 _ rfl
    have h4 := hfl 4 _ rfl
    have h5 := hfl 5 _ rfl
    have h6 := hfl 6 _ rfl
    match l, hl with
    | [c0, c1, c2, c3, c4, c5, c6, c7, c8, c9], _ =>
      obtain ⟨a1, l1, m1, rfl⟩ := slice_of Try.underlying34 (y := y0) (n := n) (c := c0) (by simpa [cellsPw, Value.cells] using h0)
      obtain ⟨a2, l2, m2, rfl⟩ := slice_of Try.underlying35 (y := y1) (n := n) (c := c1) (by simpa [cellsVs9, Value.cells] using h1)
      obtain ⟨a3, l3, m3, rfl⟩ := slice_of Try.underlying36 (y := y2) (n := n) (c := c2) (by simpa [cellsSp, Value.cells] using h2)
      obtain ⟨sl, e3, _, _⟩ := DataW.trod_int Try.underlying2 (by simpa using h3)
      obtain ⟨en, e4, _, _⟩ := DataW.trod_int Try.underlying3 (by simpa using h4)
      obtain ⟨v, e5', _, _⟩ := open_val (enc := enc) (W := W) (base := 0) (fuel := n) (spare := fun _ => true) (held := true) (cs := [c5, c6, c7]) (x := y5) (by simpa [cellsV, Value.cells] using h5)
      have h6' : DataW.trod enc Try.prog W 0 (fun _ => true) true n 38 [c8, c9] = some y6 := by simpa [cellsFr9, Value.cells] using h6
      obtain ⟨zs, n2, _, _, gl, glen, gfl⟩ := DataW.trod_struct Try.underlying38 h6'
      match zs, glen with
      | [z0, z1], _ =>
        have g0 := gfl 0 _ rfl
        obtain ⟨pc, e8, _, _⟩ := DataW.trod_int Try.underlying3 (by simpa using g0)
        simp [cellsI9, cellsN, Value.cells] at e3 e4 e8
        simp only [List.cons.injEq, and_true] at e5'
        obtain ⟨e9, e10, e11⟩ := e5'
        subst e3 e4 e8 e9 e10 e11
        exact ⟨a1, l1, m1, a2, l2, m2, a3, l3, m3, sl, en, v, pc, c9, rfl⟩

end Go.Proofs.Ythopmlgfklhagaa
