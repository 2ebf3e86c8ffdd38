/- Entries that came in, with how many they are. Conditions: those that each theorem states. -/
import Derived.Test.YthopmlgfklhagabDoorHOq
namespace Go.Proofs.YthopmlgfklhagabDoor
open Go.ChangeShapes Go.WideShapes Go.ChangeAt Go.RowKit Go.Joins Go.Deep
set_option linter.unusedVariables false

theorem bulk_posO {H : Type} (d : DataW H) : 1 ≤ Rows.uptoBulk d := by
  cases d with
  | lit l => cases l <;> simp [Rows.uptoBulk]
  | nil => simp [Rows.uptoBulk]
  | ptr d => simp [Rows.uptoBulk]
  | slice a b => simp [Rows.uptoBulk]
  | agg a => simp [Rows.uptoBulk]
  | iface a b => simp [Rows.uptoBulk]
  | map a => simp [Rows.uptoBulk]
  | held a => simp [Rows.uptoBulk]
theorem bulk_lenO {H : Type} (l : List (DataW H)) : l.length ≤ Rows.uptoBulkAll l := by
  induction l with
  | nil => simp
  | cons d l ih =>
    have := bulk_posO d
    simp only [List.length_cons, Rows.uptoBulkAll]
    omega
set_option maxRecDepth 100000 in
theorem open_wrsb {H : Type} {enc : TypeId × Value → H} {W : World} {a0 : Option Addr} {len cap : Nat} {d : DataW H} {p : List MemPlace} (h : DataW.Trod enc Tryd.prog W 0 (fun _ => true) true 22 (.slice a0 len cap) d p) :
    ∃ l : List Wr, Rw Wr.cells 7 W (.slice a0 len cap) l ∧ (∀ x ∈ l, x.v.wf) ∧ (∀ x ∈ l, x.k.wf) ∧ l.length ≤ Rows.uptoBulk d := by
  obtain ⟨fuel, hf⟩ := h
  rcases open_slice Tryd.underlying22 hf with ⟨hcs, hx⟩ | ⟨a, l, c, m, n, D, Pl, hcs, _, hl, hm, hmm, hx, hel⟩
  · simp [Value.cells] at hcs
    obtain ⟨rfl, rfl, rfl⟩ := hcs
    exact ⟨[], Rw.nil _ _ W, by simp, by simp, Nat.zero_le _⟩
  · simp [Value.cells] at hcs
    obtain ⟨rfl, rfl, rfl⟩ := hcs
    simp only [if_true] at hmm
    subst hmm
    rw [cellsWr] at hel
    haveI : Inhabited Wr := ⟨dW⟩
    obtain ⟨th, hth⟩ := choose_lt (α := Wr) (n := len) (p := fun i x => W.cells? 0 (a.add (i * 7)) 7 = some (Wr.cells x) ∧ x.k.wf ∧ x.v.wf) (fun i hi => by
      obtain ⟨cs', h1, h2⟩ := hel i (by omega)
      obtain ⟨x, rfl, h4⟩ := open_wr h2
      exact ⟨x, h1, h4⟩)
    obtain ⟨b, off, spot⟩ := a
    have cells : ∀ i, i < len → ∀ j u, (Wr.cells (th i))[j]? = some u → W.cell? (((⟨b, off, spot⟩ : Addr).add (i * 7)).add j) = some u := by
      intro i hi j u hu
      have h1 := (hth i hi).1
      have hj : j < 7 := by have := (List.getElem?_eq_some_iff.1 hu).1; simpa [Wr.cells] using this
      rw [(World.cells?_some h1).2.2 j hj]
      exact hu
    refine ⟨(List.range len).map th, ⟨some ⟨b, off, spot⟩, m, by simp, by simpa using hl, hm, ?_⟩, ?_, ?_, ?_⟩
    · intro i hi
      have hi' : i < len := by simpa using hi
      have hspot : spot = none := by simpa [Addr.add] using World.cell?_spot (cells 0 (by omega) 0 _ rfl)
      subst hspot
      have plain2 : ∀ o q, (⟨b, o, none⟩ : Addr).add q = ⟨b, o + q, none⟩ := by intro o q; unfold Addr.add; split <;> simp_all
      have g := cells i hi'
      simp only [plain2] at g
      have e : ((List.range len).map th)[i] = th i := by simp
      refine ⟨b, off, rfl, ?_, fun j u hu => ?_⟩
      · have := g 0 _ rfl
        rcases Nat.lt_or_ge b W.heap.size with h | h
        · exact h
        · exfalso
          have hn : W.heap[b]? = none := Array.getElem?_eq_none h
          simp [World.cell?, hn] at this
      · rw [e] at hu
        exact g j u hu
    · intro x hx'
      obtain ⟨i, hi, rfl⟩ := List.mem_map.1 hx'
      exact (hth i (by simpa using hi)).2.2
    · intro x hx'
      obtain ⟨i, hi, rfl⟩ := List.mem_map.1 hx'
      exact (hth i (by simpa using hi)).2.1
    · simp only [Prod.mk.injEq] at hx
      rw [hx.1]
      have := bulk_lenO ((List.range len).map D)
      simp only [Rows.uptoBulk, List.length_map, List.length_range] at this ⊢
      omega
end Go.Proofs.YthopmlgfklhagabDoor
