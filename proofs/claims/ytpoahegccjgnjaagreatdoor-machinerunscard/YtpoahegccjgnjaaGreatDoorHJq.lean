/- What the arguments of layer 16's laws are, as they come in: a value. Conditions: those that each theorem states. What the arguments of layer 16's laws are, as they come in: a frame, entries. Conditions: those that each theorem states. Entries that came in, with how many they are. Conditions: those that each theorem states. -/
import Derived.Test.YtpoahegccjgnjaaGreatDoorKOpen
import Derived.Test.YtpoahegccjgnjaaGreatDoorIOpen
import Derived.Test.YtpoahegccjgnjaaGreatDoorHDefs
namespace Go.Proofs.YtpoahegccjgnjaaGreatDoor
open Go.ChangeShapes Go.WideShapes Go.ChangeAt Go.RowKit Go.Joins Go.Deep
set_option linter.unusedVariables false

set_option maxRecDepth 100000 in
/-- A value that came in by value. -/
theorem open_valv {H : Type} {enc : TypeId × Value → H} {W : World} {base : Nat} {v : Value} {d : DataW H} {p : List MemPlace} (hok : Value.okWide Tryz.prog W .any base 31 v) (h : DataW.Trod enc Tryz.prog W 0 (fun _ => true) true 31 v d p) :
    ∃ x : V, v = x.val ∧ x.wf := by
  obtain ⟨cs, rfl, hsz⟩ := okWide_struct Tryz.underlying31 hok
  obtain ⟨fuel, hf⟩ := h
  obtain ⟨x, e, _, hx⟩ := open_val hf
  obtain ⟨l⟩ := cs
  simp [Value.cells] at e
  subst e
  exact ⟨x, rfl, hx⟩

end Go.Proofs.YtpoahegccjgnjaaGreatDoor

namespace Go.Proofs.YtpoahegccjgnjaaGreatDoor
open Go.ChangeShapes Go.WideShapes Go.ChangeAt Go.RowKit Go.Joins Go.Deep
set_option linter.unusedVariables false

theorem cellsWr : Tryz.prog.cellsOf 62 = 7 := by kernel_rfl
theorem cellsBo : Tryz.prog.cellsOf 4 = 1 := by kernel_rfl
theorem cellsFr : Tryz.prog.cellsOf 25 = 2 := by kernel_rfl
theorem cellsVs : Tryz.prog.cellsOf 23 = 1 := by kernel_rfl
set_option maxRecDepth 100000 in
theorem open_wr {H : Type} {enc : TypeId × Value → H} {W : World} {base fuel : Nat} {spare : Nat → Bool} {held : Bool} {cs : List Value} {x : DataW H × List MemPlace} (h : DataW.trod enc Tryz.prog W base spare held fuel 62 cs = some x) :
    ∃ v : Wr, cs = Wr.cells v ∧ v.k.wf ∧ v.v.wf := by
  obtain ⟨y0, y1, y2, n, rfl, hl, h0, h1, h2⟩ := trod_struct3 Tryz.underlying62 h
  rw [cellsWr] at hl
  match cs, hl with
  | [c0, c1, c2, c3, c4, c5, c6], _ =>
    obtain ⟨k, e0, _, w0⟩ := open_val h0
    obtain ⟨v, e1, _, w1⟩ := open_val h1
    obtain ⟨g, e2, _⟩ := DataW.trod_bool Tryz.underlying4 h2
    have e0' : [c0, c1, c2] = [.int .i64 k.k, .int .i64 k.n, .string k.s] := by
      rw [cellsV] at e0
      simpa using e0
    have e1' : [c3, c4, c5] = [.int .i64 v.k, .int .i64 v.n, .string v.s] := by
      rw [cellsV] at e1
      simpa using e1
    have e2' : [c6] = [.bool g] := by
      rw [cellsBo] at e2
      simpa using e2
    simp only [List.cons.injEq, and_true] at e0' e1' e2'
    obtain ⟨rfl, rfl, rfl⟩ := e0'
    obtain ⟨rfl, rfl, rfl⟩ := e1'
    subst e2'
    exact ⟨⟨k, v, g⟩, rfl, w0, w1⟩

set_option maxRecDepth 100000 in
theorem open_wrs {H : Type} {enc : TypeId × Value → H} {W : World} {a0 : Option Addr} {len cap : Nat} {d : DataW H} {p : List MemPlace} (h : DataW.Trod enc Tryz.prog W 0 (fun _ => true) true 26 (.slice a0 len cap) d p) :
    ∃ l : List Wr, Rw Wr.cells 7 W (.slice a0 len cap) l ∧ (∀ x ∈ l, x.v.wf) ∧ (∀ x ∈ l, x.k.wf) := by
  obtain ⟨fuel, hf⟩ := h
  rcases open_slice Tryz.underlying26 hf with ⟨hcs, hx⟩ | ⟨a, l, c, m, n, D, Pl, hcs, _, hl, hm, hmm, hx, hel⟩
  · simp [Value.cells] at hcs
    obtain ⟨rfl, rfl, rfl⟩ := hcs
    exact ⟨[], Rw.nil _ _ W, by simp, by simp⟩
  · simp [Value.cells] at hcs
    obtain ⟨rfl, rfl, rfl⟩ := hcs
    simp only [if_true] at hmm
    subst hmm
    rw [cellsWr] at hel
    haveI : Inhabited Wr := ⟨dW⟩
    obtain ⟨th, hth⟩ := choose_lt (α := Wr) (n := len) (p := fun i x => W.cells? 0 (a.add (i * 7)) 7 = some (Wr.cells x) ∧ x.k.wf ∧ x.v.wf) (fun i hi => by
      obtain ⟨cs', h1, h2⟩ := hel i (by omega)
      obtain ⟨x, rfl, h4⟩ := open_wr h2
      exact ⟨x, h1, h4⟩)
    obtain ⟨b, off, spot⟩ := a
    have cells : ∀ i, i < len → ∀ j u, (Wr.cells (th i))[j]? = some u → W.cell? (((⟨b, off, spot⟩ : Addr).add (i * 7)).add j) = some u := by
      intro i hi j u hu
      have h1 := (hth i hi).1
      have hj : j < 7 := by have := (List.getElem?_eq_some_iff.1 hu).1; simpa [Wr.cells] using this
      rw [(World.cells?_some h1).2.2 j hj]
      exact hu
    refine ⟨(List.range len).map th, ⟨some ⟨b, off, spot⟩, m, by simp, by simpa using hl, hm, ?_⟩, ?_, ?_⟩
    · intro i hi
      have hi' : i < len := by simpa using hi
      have hspot : spot = none := by simpa [Addr.add] using World.cell?_spot (cells 0 (by omega) 0 _ rfl)
      subst hspot
      have plain2 : ∀ o q, (⟨b, o, none⟩ : Addr).add q = ⟨b, o + q, none⟩ := by intro o q; unfold Addr.add; split <;> simp_all
      have g := cells i hi'
      simp only [plain2] at g
      have e : ((List.range len).map th)[i] = th i := by simp
      refine ⟨b, off, rfl, ?_, fun j u hu => ?_⟩
      · have := g 0 _ rfl
        rcases Nat.lt_or_ge b W.heap.size with h | h
        · exact h
        · exfalso
          have hn : W.heap[b]? = none := Array.getElem?_eq_none h
          simp [World.cell?, hn] at this
      · rw [e] at hu
        exact g j u hu
    · intro x hx'
      obtain ⟨i, hi, rfl⟩ := List.mem_map.1 hx'
      exact (hth i (by simpa using hi)).2.2
    · intro x hx'
      obtain ⟨i, hi, rfl⟩ := List.mem_map.1 hx'
      exact (hth i (by simpa using hi)).2.1

theorem tup_rw {w : World} {v : Value} {l : List V} (h : Tup w v l) : Rw V.cells 3 w v l := by
  obtain ⟨a, c, rfl, h1, h2, h3⟩ := h
  refine ⟨a, c, rfl, h1, h2, fun i hi => ?_⟩
  obtain ⟨b, off, rfl, hb, c0, c1, c2⟩ := h3 i hi
  refine ⟨b, off, rfl, hb, fun j u hu => ?_⟩
  match j, hu with
  | 0, hu => cases hu; exact c0
  | 1, hu => cases hu; exact c1
  | 2, hu => cases hu; exact c2
  | j + 3, hu => simp [V.cells] at hu

set_option maxRecDepth 100000 in
/-- A frame that came in by value. -/
theorem open_framev {H : Type} {enc : TypeId × Value → H} {W : World} {base : Nat} {v : Value} {d : DataW H} {p : List MemPlace} (hok : Value.okWide Tryz.prog W .any base 25 v) (h : DataW.Trod enc Tryz.prog W 0 (fun _ => true) true 25 v d p) :
    ∃ (pc : Int) (rv : Value) (rg : List V), v = .agg #[.int .i64 pc, rv] ∧ Rw V.cells 3 W rv rg ∧ (∀ x ∈ rg, x.wf) ∧ ir pc := by
  obtain ⟨cs, rfl, hsz⟩ := okWide_struct Tryz.underlying25 hok
  obtain ⟨fuel, hf⟩ := h
  obtain ⟨xs, n, _, _, hl, hlen, hfl⟩ := DataW.trod_struct Tryz.underlying25 hf
  obtain ⟨l⟩ := cs
  rw [cellsFr] at hl
  match xs, hlen with
  | [y0, y1], _ =>
    have h0 := hfl 0 _ rfl
    have h1 := hfl 1 _ rfl
    match l, hl with
    | [c0, c1], _ =>
      obtain ⟨pc, e0, _, w0⟩ := DataW.trod_int Tryz.underlying3 (by simpa using h0)
      have h1' : DataW.trod enc Tryz.prog W 0 (fun _ => true) true n 23 [c1] = some y1 := by simpa [cellsVs, Value.cells] using h1
      have hsl : ∃ a0 len cap, c1 = .slice a0 len cap := by
        rcases open_slice Tryz.underlying23 h1' with ⟨hcs, _⟩ | ⟨a, l, c, _, _, _, _, hcs, _⟩
        · simp at hcs; exact ⟨_, _, _, hcs⟩
        · simp at hcs; exact ⟨_, _, _, hcs⟩
      obtain ⟨a0, len, cap, rfl⟩ := hsl
      obtain ⟨rg, hT, hw, _⟩ := open_vals (enc := enc) (d := y1.1) (p := y1.2) ⟨n, h1'⟩
      have e0' : c0 = .int .i64 pc := by simpa [cellsIi, Value.cells] using e0
      subst e0'
      exact ⟨pc, _, rg, rfl, tup_rw hT, hw, irOf w0⟩

end Go.Proofs.YtpoahegccjgnjaaGreatDoor

namespace Go.Proofs.YtpoahegccjgnjaaGreatDoor
open Go.ChangeShapes Go.WideShapes Go.ChangeAt Go.RowKit Go.Joins Go.Deep
set_option linter.unusedVariables false

theorem bulk_posO {H : Type} (d : DataW H) : 1 ≤ Rows.uptoBulk d := by
  cases d with
  | lit l => cases l <;> simp [Rows.uptoBulk]
  | nil => simp [Rows.uptoBulk]
  | ptr d => simp [Rows.uptoBulk]
  | slice a b => simp [Rows.uptoBulk]
  | agg a => simp [Rows.uptoBulk]
  | iface a b => simp [Rows.uptoBulk]
  | map a => simp [Rows.uptoBulk]
  | held a => simp [Rows.uptoBulk]
theorem bulk_lenO {H : Type} (l : List (DataW H)) : l.length ≤ Rows.uptoBulkAll l := by
  induction l with
  | nil => simp
  | cons d l ih =>
    have := bulk_posO d
    simp only [List.length_cons, Rows.uptoBulkAll]
    omega
set_option maxRecDepth 100000 in
theorem open_wrsb {H : Type} {enc : TypeId × Value → H} {W : World} {a0 : Option Addr} {len cap : Nat} {d : DataW H} {p : List MemPlace} (h : DataW.Trod enc Tryz.prog W 0 (fun _ => true) true 26 (.slice a0 len cap) d p) :
    ∃ l : List Wr, Rw Wr.cells 7 W (.slice a0 len cap) l ∧ (∀ x ∈ l, x.v.wf) ∧ (∀ x ∈ l, x.k.wf) ∧ l.length ≤ Rows.uptoBulk d := by
  obtain ⟨fuel, hf⟩ := h
  rcases open_slice Tryz.underlying26 hf with ⟨hcs, hx⟩ | ⟨a, l, c, m, n, D, Pl, hcs, _, hl, hm, hmm, hx, hel⟩
  · simp [Value.cells] at hcs
    obtain ⟨rfl, rfl, rfl⟩ := hcs
    exact ⟨[], Rw.nil _ _ W, by simp, by simp, Nat.zero_le _⟩
  · simp [Value.cells] at hcs
    obtain ⟨rfl, rfl, rfl⟩ := hcs
    simp only [if_true] at hmm
    subst hmm
    rw [cellsWr] at hel
    haveI : Inhabited Wr := ⟨dW⟩
    obtain ⟨th, hth⟩ := choose_lt (α := Wr) (n := len) (p := fun i x => W.cells? 0 (a.add (i * 7)) 7 = some (Wr.cells x) ∧ x.k.wf ∧ x.v.wf) (fun i hi => by
      obtain ⟨cs', h1, h2⟩ := hel i (by omega)
      obtain ⟨x, rfl, h4⟩ := open_wr h2
      exact ⟨x, h1, h4⟩)
    obtain ⟨b, off, spot⟩ := a
    have cells : ∀ i, i < len → ∀ j u, (Wr.cells (th i))[j]? = some u → W.cell? (((⟨b, off, spot⟩ : Addr).add (i * 7)).add j) = some u := by
      intro i hi j u hu
      have h1 := (hth i hi).1
      have hj : j < 7 := by have := (List.getElem?_eq_some_iff.1 hu).1; simpa [Wr.cells] using this
      rw [(World.cells?_some h1).2.2 j hj]
      exact hu
    refine ⟨(List.range len).map th, ⟨some ⟨b, off, spot⟩, m, by simp, by simpa using hl, hm, ?_⟩, ?_, ?_, ?_⟩
    · intro i hi
      have hi' : i < len := by simpa using hi
      have hspot : spot = none := by simpa [Addr.add] using World.cell?_spot (cells 0 (by omega) 0 _ rfl)
      subst hspot
      have plain2 : ∀ o q, (⟨b, o, none⟩ : Addr).add q = ⟨b, o + q, none⟩ := by intro o q; unfold Addr.add; split <;> simp_all
      have g := cells i hi'
      simp only [plain2] at g
      have e : ((List.range len).map th)[i] = th i := by simp
      refine ⟨b, off, rfl, ?_, fun j u hu => ?_⟩
      · have := g 0 _ rfl
        rcases Nat.lt_or_ge b W.heap.size with h | h
        · exact h
        · exfalso
          have hn : W.heap[b]? = none := Array.getElem?_eq_none h
          simp [World.cell?, hn] at this
      · rw [e] at hu
        exact g j u hu
    · intro x hx'
      obtain ⟨i, hi, rfl⟩ := List.mem_map.1 hx'
      exact (hth i (by simpa using hi)).2.2
    · intro x hx'
      obtain ⟨i, hi, rfl⟩ := List.mem_map.1 hx'
      exact (hth i (by simpa using hi)).2.1
    · simp only [Prod.mk.injEq] at hx
      rw [hx.1]
      have := bulk_lenO ((List.range len).map D)
      simp only [Rows.uptoBulk, List.length_map, List.length_range] at this ⊢
      omega
end Go.Proofs.YtpoahegccjgnjaaGreatDoor
