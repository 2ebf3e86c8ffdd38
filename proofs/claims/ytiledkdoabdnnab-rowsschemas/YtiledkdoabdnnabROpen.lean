/- How a schema, a row and a value that came in lie in memory: their reading opened. No conditions but those that each theorem states. -/
import Derived.Test.YtiledkdoabdnnabKOpen
import Derived.Test.YtiledkdoabdnnabRDefs
namespace Go.Proofs.Ytiledkdoabdnnab
open Go.ChangeShapes Go.WideShapes Go.ChangeAt Go.RowKit Go.Joins Go.Deep
set_option linter.unusedVariables false

theorem cellsSch : Try.prog.cellsOf 24 = 3 := by kernel_rfl
theorem cellsKs : Try.prog.cellsOf 22 = 1 := by kernel_rfl
theorem cellsI : Try.prog.cellsOf 3 = 1 := by kernel_rfl

theorem open_kinds {H : Type} {enc : TypeId × Value → H} {W : World} {fuel : Nat} {cs : List Value} {x : DataW H × List MemPlace} (h : DataW.trod enc Try.prog W 0 (fun _ => true) true fuel 22 cs = some x) :
    ∃ (kv : Value) (ks : List Int), cs = [kv] ∧ Kd W kv ks := by
  rcases open_slice Try.underlying22 h with ⟨hcs, hx⟩ | ⟨a, len, c, m, n, D, Pl, hcs, _, hl, hm, hmm, hx, hel⟩
  · exact ⟨_, [], hcs, Kd.nil W⟩
  · simp only [if_true] at hmm
    subst hmm
    rw [cellsK] at hel
    obtain ⟨th, hth⟩ := choose_lt (α := Int) (n := len) (p := fun i k => W.cells? 0 (a.add (i * 1)) 1 = some [.int .i64 k]) (fun i hi => by
      obtain ⟨cs', h1, h2⟩ := hel i (by omega)
      obtain ⟨k, e0, _, _⟩ := DataW.trod_int Try.underlying36 h2
      subst e0
      exact ⟨k, h1⟩)
    obtain ⟨b, off, spot⟩ := a
    have cells : ∀ i, i < len → W.cell? (((⟨b, off, spot⟩ : Addr).add (i * 1)).add 0) = some (.int .i64 (th i)) := by
      intro i hi
      rw [(World.cells?_some (hth i hi)).2.2 0 (by omega)]
      rfl
    refine ⟨_, (List.range len).map th, hcs, some ⟨b, off, spot⟩, m, by simp, by simpa using hl, hm, ?_⟩
    intro i hi
    have hi' : i < len := by simpa using hi
    have hspot : spot = none := by simpa [Addr.add] using World.cell?_spot (cells 0 (by omega))
    subst hspot
    have plain2 : ∀ o q, (⟨b, o, none⟩ : Addr).add q = ⟨b, o + q, none⟩ := by intro o q; unfold Addr.add; split <;> simp_all
    have g := cells i hi'
    simp only [plain2, Nat.mul_one, Nat.add_zero] at g
    have e : ((List.range len).map th)[i] = th i := by simp
    refine ⟨b, off, rfl, ?_, by rw [e]; exact g⟩
    rcases Nat.lt_or_ge b W.heap.size with h | h
    · exact h
    · exfalso
      have hn : W.heap[b]? = none := Array.getElem?_eq_none h
      simp [World.cell?, hn] at g

theorem open_schema {H : Type} {enc : TypeId × Value → H} {W : World} {base : Nat} {v : Value} {d : DataW H} {p : List MemPlace} (hok : Value.okWide Try.prog W .any base 24 v) (h : DataW.Trod enc Try.prog W 0 (fun _ => true) true 24 v d p) :
    ∃ (kv : Value) (ks : List Int) (u x : Int), v = sval kv u x ∧ Kd W kv ks := by
  obtain ⟨cs, rfl, hsz⟩ := okWide_struct Try.underlying24 hok
  obtain ⟨fuel, hf⟩ := h
  obtain ⟨y0, y1, y2, n, _, hl, h0, h1, h2⟩ := trod_struct3 Try.underlying24 hf
  rw [cellsSch] at hl hsz
  obtain ⟨kv, ks, e0, hK⟩ := open_kinds h0
  obtain ⟨u, e1, _, _⟩ := DataW.trod_int Try.underlying3 h1
  obtain ⟨x, e2, _, _⟩ := DataW.trod_int Try.underlying3 h2
  obtain ⟨l⟩ := cs
  match l, hsz with
  | [c0, c1, c2], _ =>
    simp [Value.cells, cellsKs, cellsI] at e0 e1 e2
    subst e0 e1 e2
    exact ⟨_, ks, u, x, rfl, hK⟩

theorem open_value {H : Type} {enc : TypeId × Value → H} {W : World} {base : Nat} {v : Value} {d : DataW H} {p : List MemPlace} (hok : Value.okWide Try.prog W .any base 38 v) (h : DataW.Trod enc Try.prog W 0 (fun _ => true) true 38 v d p) :
    ∃ x : V, v = x.val ∧ x.wf := by
  obtain ⟨cs, rfl, hsz⟩ := okWide_struct Try.underlying38 hok
  obtain ⟨fuel, hf⟩ := h
  obtain ⟨x, e, _, hx⟩ := open_val hf
  obtain ⟨l⟩ := cs
  simp [Value.cells] at e
  subst e
  exact ⟨x, rfl, hx⟩

theorem open_row {H : Type} {enc : TypeId × Value → H} {W : World} {a0 : Option Addr} {len cap : Nat} {d : DataW H} {p : List MemPlace} (h : DataW.Trod enc Try.prog W 0 (fun _ => true) true 40 (.slice a0 len cap) d p) :
    ∃ l : List V, Tup W (.slice a0 len cap) l ∧ (∀ x ∈ l, x.wf) := by
  obtain ⟨fuel, hf⟩ := h
  rcases open_slice Try.underlying40 hf with ⟨hcs, hx⟩ | ⟨a, l, c, m, n, D, Pl, hcs, _, hl, hm, hmm, hx, hel⟩
  · simp [Value.cells] at hcs
    obtain ⟨rfl, rfl, rfl⟩ := hcs
    exact ⟨[], Tup.nil W, by simp⟩
  · simp [Value.cells] at hcs
    obtain ⟨rfl, rfl, rfl⟩ := hcs
    simp only [if_true] at hmm
    subst hmm
    rw [cellsV] at hel
    haveI : Inhabited V := ⟨⟨0, 0, ByteArray.empty⟩⟩
    obtain ⟨th, hth⟩ := choose_lt (α := V) (n := len) (p := fun i x => W.cells? 0 (a.add (i * 3)) 3 = some [.int .i64 x.k, .int .i64 x.n, .string x.s] ∧ x.wf) (fun i hi => by
      obtain ⟨cs', h1, h2⟩ := hel i (by omega)
      obtain ⟨x, rfl, h3, h4⟩ := open_val h2
      exact ⟨x, h1, h4⟩)
    obtain ⟨b, off, spot⟩ := a
    have cells : ∀ i, i < len → ∀ j u, ([.int .i64 (th i).k, .int .i64 (th i).n, .string (th i).s] : List Value)[j]? = some u → W.cell? (((⟨b, off, spot⟩ : Addr).add (i * 3)).add j) = some u := by
      intro i hi j u hu
      have h1 := (hth i hi).1
      have hj : j < 3 := by have := (List.getElem?_eq_some_iff.1 hu).1; simpa using this
      rw [(World.cells?_some h1).2.2 j hj]
      exact hu
    refine ⟨(List.range len).map th, ⟨some ⟨b, off, spot⟩, m, by simp, by simpa using hl, hm, ?_⟩, ?_⟩
    · intro i hi
      have hi' : i < len := by simpa using hi
      have hspot : spot = none := by simpa [Addr.add] using World.cell?_spot (cells 0 (by omega) 0 _ rfl)
      subst hspot
      have plain2 : ∀ o q, (⟨b, o, none⟩ : Addr).add q = ⟨b, o + q, none⟩ := by intro o q; unfold Addr.add; split <;> simp_all
      have g := cells i hi'
      simp only [plain2] at g
      have e : ((List.range len).map th)[i] = th i := by simp
      refine ⟨b, off, rfl, ?_, ?_, ?_, ?_⟩
      · have := g 0 _ rfl
        rcases Nat.lt_or_ge b W.heap.size with h | h
        · exact h
        · exfalso
          have hn : W.heap[b]? = none := Array.getElem?_eq_none h
          simp [World.cell?, hn] at this
      · rw [e]; exact g 0 _ rfl
      · rw [e]; exact g 1 _ rfl
      · rw [e]; exact g 2 _ rfl
    · intro x hx'
      obtain ⟨i, hi, rfl⟩ := List.mem_map.1 hx'
      exact (hth i (by simpa using hi)).2

end Go.Proofs.Ytiledkdoabdnnab
