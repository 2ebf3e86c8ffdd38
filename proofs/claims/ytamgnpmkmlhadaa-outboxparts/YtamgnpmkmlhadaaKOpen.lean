/- How a tuple that came in lies in memory: its reading opened, value by value; and how many bytes it can make. No conditions but those that each theorem states. -/
import Derived.Test.YtamgnpmkmlhadaaRows
import Derived.Test.YtamgnpmkmlhadaaVals
import Derived.ProofKit
import Derived.OpenShut
import Derived.Lib.SmallJoins
import Derived.Deep.Strs
namespace Go.Proofs.Ytamgnpmkmlhadaa
open Go.ChangeShapes Go.WideShapes Go.ChangeAt Go.RowKit Go.Joins Go.Deep
set_option linter.unusedVariables false

theorem cellsV : Try.prog.cellsOf 24 = 3 := by kernel_rfl
theorem cellsK : Try.prog.cellsOf 22 = 1 := by kernel_rfl
theorem cellsN : Try.prog.cellsOf 2 = 1 := by kernel_rfl
theorem cellsS : Try.prog.cellsOf 9 = 1 := by kernel_rfl

/-- A value as it is read. -/
def vData {H : Type} (x : V) : DataW H := .agg [.lit (.int .i64 x.k), .lit (.int .i64 x.n), .lit (.string x.s.data.toList)]
set_option maxRecDepth 100000 in
theorem open_val {H : Type} {enc : TypeId × Value → H} {W : World} {base fuel : Nat} {spare : Nat → Bool} {held : Bool} {cs : List Value} {x : DataW H × List MemPlace} (h : DataW.trod enc Try.prog W base spare held fuel 24 cs = some x) :
    ∃ v : V, cs = [.int .i64 v.k, .int .i64 v.n, .string v.s] ∧ x.1 = vData v ∧ v.wf := by
  obtain ⟨y0, y1, y2, n, rfl, hl, h0, h1, h2⟩ := trod_struct3 Try.underlying24 h
  rw [cellsV] at hl
  match cs, hl with
  | [c0, c1, c2], _ =>
    obtain ⟨k, e0, f0, wk⟩ := DataW.trod_int Try.underlying22 h0
    obtain ⟨m, e1, f1, wm⟩ := DataW.trod_int Try.underlying2 h1
    obtain ⟨s, e2, f2, hs⟩ := DataW.trod_string Try.underlying9 h2
    simp [cellsK, cellsN, cellsS] at e0 e1 e2
    subst e0 e1 e2
    have b1 := bounds_i64 wm
    refine ⟨⟨k, m, s⟩, rfl, ?_, ⟨b1.1, by show m < _; omega, hs⟩⟩
    rw [f0, f1, f2]
    rfl

/-- How much a tuple holds. -/
def bulkV : List V → Nat
  | [] => 0
  | x :: l => x.s.size + 4 + bulkV l
theorem bulk_vals {H : Type} (l : List V) : Rows.uptoBulkAll (l.map (vData (H := H))) = bulkV l := by
  induction l with
  | nil => rfl
  | cons x l ih =>
    have e : x.s.data.toList.length = x.s.size := by rw [Array.length_toList]; rfl
    simp only [List.map_cons, Rows.uptoBulkAll, bulkV, ih, vData, Rows.uptoBulk, e]
    omega
theorem encV_le (x : V) : (encV x).length ≤ 4 * (x.s.size + 4) := by
  unfold encV
  split
  · simp only [List.length_cons, be_len]; omega
  · have e : x.s.data.toList.length = x.s.size := by rw [Array.length_toList]; rfl
    have := esc_len x.s.data.toList
    simp only [encT, List.length_cons, List.length_append, List.length_nil]
    omega
theorem encL_bulk (l : List V) : (encL l).length ≤ 4 * bulkV l := by
  induction l with
  | nil => simp [encL]
  | cons x l ih =>
    have := encV_le x
    have e : encL (x :: l) = encV x ++ encL l := by simp [encL]
    rw [e, List.length_append]
    simp only [bulkV]
    omega

theorem open_vals {H : Type} {enc : TypeId × Value → H} {W : World} {a0 : Option Addr} {len cap : Nat} {d : DataW H} {p : List MemPlace} (h : DataW.Trod enc Try.prog W 0 (fun _ => true) true 87 (.slice a0 len cap) d p) :
    ∃ l : List V, Tup W (.slice a0 len cap) l ∧ (∀ x ∈ l, x.wf) ∧ bulkV l ≤ Rows.uptoBulk d := by
  have hlt : ∀ x ∈ p, x.block < W.heap.size := by obtain ⟨m, hm⟩ := h; exact DataW.trod_lt m _ _ _ hm
  obtain ⟨fuel, hf⟩ := h
  rcases open_slice Try.underlying87 hf with ⟨hcs, hx⟩ | ⟨a, l, c, m, n, D, Pl, hcs, _, hl, hm, hmm, hx, hel⟩
  · simp [Value.cells] at hcs
    obtain ⟨rfl, rfl, rfl⟩ := hcs
    exact ⟨[], Tup.nil W, by simp, by simp [bulkV]⟩
  · simp [Value.cells] at hcs
    obtain ⟨rfl, rfl, rfl⟩ := hcs
    simp only [if_true] at hmm
    subst hmm
    rw [cellsV] at hel
    haveI : Inhabited V := ⟨⟨0, 0, ByteArray.empty⟩⟩
    obtain ⟨th, hth⟩ := choose_lt (α := V) (n := len) (p := fun i x => W.cells? 0 (a.add (i * 3)) 3 = some [.int .i64 x.k, .int .i64 x.n, .string x.s] ∧ D i = vData x ∧ x.wf) (fun i hi => by
      obtain ⟨cs', h1, h2⟩ := hel i (by omega)
      obtain ⟨x, rfl, h3, h4⟩ := open_val h2
      exact ⟨x, h1, h3, h4⟩)
    obtain ⟨b, off, spot⟩ := a
    have cells : ∀ i, i < len → ∀ j u, ([.int .i64 (th i).k, .int .i64 (th i).n, .string (th i).s] : List Value)[j]? = some u → W.cell? (((⟨b, off, spot⟩ : Addr).add (i * 3)).add j) = some u := by
      intro i hi j u hu
      have h1 := (hth i hi).1
      have hj : j < 3 := by have := (List.getElem?_eq_some_iff.1 hu).1; simpa using this
      rw [(World.cells?_some h1).2.2 j hj]
      exact hu
    refine ⟨(List.range len).map th, ⟨some ⟨b, off, spot⟩, m, by simp, by simpa using hl, hm, ?_⟩, ?_, ?_⟩
    · intro i hi
      have hi' : i < len := by simpa using hi
      have hspot : spot = none := by simpa [Addr.add] using World.cell?_spot (cells 0 (by omega) 0 _ rfl)
      subst hspot
      have plain2 : ∀ o q, (⟨b, o, none⟩ : Addr).add q = ⟨b, o + q, none⟩ := by intro o q; unfold Addr.add; split <;> simp_all
      have g := cells i hi'
      simp only [plain2] at g
      have e : ((List.range len).map th)[i] = th i := by simp
      refine ⟨b, off, rfl, ?_, ?_, ?_, ?_⟩
      · have := g 0 _ rfl
        rcases Nat.lt_or_ge b W.heap.size with h | h
        · exact h
        · exfalso
          have hn : W.heap[b]? = none := Array.getElem?_eq_none h
          simp [World.cell?, hn] at this
      · rw [e]; exact g 0 _ rfl
      · rw [e]; exact g 1 _ rfl
      · rw [e]; exact g 2 _ rfl
    · intro x hx'
      obtain ⟨i, hi, rfl⟩ := List.mem_map.1 hx'
      exact (hth i (by simpa using hi)).2.2
    · simp only [Prod.mk.injEq] at hx
      rw [hx.1]
      have e : (List.range len).map D = ((List.range len).map th).map (vData (H := H)) := by
        rw [List.map_map]
        exact List.map_congr_left fun i hi => (hth i (by simpa using hi)).2.1
      simp only [Rows.uptoBulk]
      rw [e, bulk_vals]
      omega

end Go.Proofs.Ytamgnpmkmlhadaa
