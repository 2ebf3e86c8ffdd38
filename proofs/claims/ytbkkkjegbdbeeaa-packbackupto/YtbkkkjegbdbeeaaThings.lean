/- How a list of things that came in lies in memory: its reading opened, thing by thing. No conditions but those that each theorem states. -/
import Derived.Test.YtbkkkjegbdbeeaaReads
import Derived.ProofKit
import Derived.OpenShut
import Derived.Lib.SmallJoins
namespace Go.Proofs.Ytbkkkjegbdbeeaa.packReads
open Go.ChangeShapes Go.WideShapes Go.ChangeAt Go.RowKit Go.Joins Go.Deep
set_option linter.unusedVariables false

theorem cells25 : Try.prog.cellsOf 25 = 4 := by kernel_rfl
theorem cells3 : Try.prog.cellsOf 3 = 1 := by kernel_rfl
theorem cells23 : Try.prog.cellsOf 23 = 1 := by kernel_rfl
theorem cells9 : Try.prog.cellsOf 9 = 1 := by kernel_rfl

/-- A thing as it is read. -/
def thData {H : Type} (x : Th) : DataW H := .agg [.lit (.int .i64 x.t), .lit (.int .i64 x.k), .lit (.int .u64 (x.n : Int)), .lit (.string x.s.data.toList)]

theorem open_thing {H : Type} {enc : TypeId × Value → H} {W : World} {base fuel : Nat} {spare : Nat → Bool} {held : Bool} {cs : List Value} {x : DataW H × List MemPlace} (h : DataW.trod enc Try.prog W base spare held fuel 25 cs = some x) :
    ∃ th : Th, cs = [.int .i64 th.t, .int .i64 th.k, .int .u64 th.n, .string th.s] ∧ x.1 = thData th ∧ (th.n : Int) < 18446744073709551616 ∧ th.s.size ≤ maxLen := by
  obtain ⟨y0, y1, y2, y3, n, rfl, hl, h0, h1, h2, h3⟩ := trod_struct4 Try.underlying25 h
  rw [cells25] at hl
  match cs, hl with
  | [c0, c1, c2, c3], _ =>
    obtain ⟨t, e0, f0, wt⟩ := DataW.trod_int Try.underlying3 h0
    obtain ⟨k, e1, f1, wk⟩ := DataW.trod_int Try.underlying3 h1
    obtain ⟨m, e2, f2, wm⟩ := DataW.trod_int Try.underlying23 h2
    obtain ⟨s, e3, f3, hs⟩ := DataW.trod_string Try.underlying9 h3
    simp [cells3, cells23, cells9] at e0 e1 e2 e3
    subst e0 e1 e2 e3
    have b0 := bounds_u64 wm
    obtain ⟨m', rfl⟩ := Int.eq_ofNat_of_zero_le b0.1
    refine ⟨⟨t, k, m', s⟩, rfl, ?_, by show (m' : Int) < _; omega, hs⟩
    rw [f0, f1, f2, f3]
    rfl

theorem open_things {H : Type} {enc : TypeId × Value → H} {W : World} {a0 : Option Addr} {len cap : Nat} {d : DataW H} {p : List MemPlace} (h : DataW.Trod enc Try.prog W 0 (fun _ => true) true 33 (.slice a0 len cap) d p) :
    len = 0 ∨ ∃ (b off : Nat) (th : Nat → Th) (sp : List (DataW H)), a0 = some ⟨b, off, none⟩ ∧ len ≤ cap ∧ cap ≤ maxLen ∧ Lies W b off len th ∧ (∀ i, i < len → ((th i).n : Int) < 18446744073709551616 ∧ (th i).s.size ≤ maxLen) ∧ d = .slice ((List.range len).map fun i => thData (th i)) sp := by
  obtain ⟨fuel, hf⟩ := h
  rcases open_slice Try.underlying33 hf with ⟨hcs, hx⟩ | ⟨a, l, c, m, n, D, Pl, hcs, _, hl, hm, hmm, hx, hel⟩
  · simp [Value.cells] at hcs
    exact .inl hcs.2.1
  · simp [Value.cells] at hcs
    obtain ⟨rfl, rfl, rfl⟩ := hcs
    by_cases h0 : len = 0
    · exact .inl h0
    right
    simp only [if_true] at hmm
    subst hmm
    rw [cells25] at hel
    haveI : Inhabited Th := ⟨⟨0, 0, 0, ByteArray.empty⟩⟩
    obtain ⟨th, hth⟩ := choose_lt (α := Th) (n := len) (p := fun i x => W.cells? 0 (a.add (i * 4)) 4 = some [.int .i64 x.t, .int .i64 x.k, .int .u64 x.n, .string x.s] ∧ D i = thData x ∧ (x.n : Int) < 18446744073709551616 ∧ x.s.size ≤ maxLen) (fun i hi => by
      obtain ⟨cs', h1, h2⟩ := hel i (by omega)
      obtain ⟨x, rfl, h3, h4, h5⟩ := open_thing h2
      exact ⟨x, h1, h3, h4, h5⟩)
    obtain ⟨b, off, spot⟩ := a
    have cells : ∀ i, i < len → ∀ j u, ([.int .i64 (th i).t, .int .i64 (th i).k, .int .u64 (th i).n, .string (th i).s] : List Value)[j]? = some u → W.cell? (((⟨b, off, spot⟩ : Addr).add (i * 4)).add j) = some u := by
      intro i hi j u hu
      have h1 := (hth i hi).1
      have hj : j < 4 := by have := (List.getElem?_eq_some_iff.1 hu).1; simpa using this
      rw [(World.cells?_some h1).2.2 j hj]
      exact hu
    have hspot : spot = none := by simpa [Addr.add] using World.cell?_spot (cells 0 (by omega) 0 _ rfl)
    subst hspot
    have plain : ∀ q, (⟨b, off, none⟩ : Addr).add q = ⟨b, off + q, none⟩ := by intro q; unfold Addr.add; split <;> simp_all
    have plain2 : ∀ o q, (⟨b, o, none⟩ : Addr).add q = ⟨b, o + q, none⟩ := by intro o q; unfold Addr.add; split <;> simp_all
    refine ⟨b, off, th, (List.range (m - len)).map fun j => D (len + j), rfl, hl, hm, ?_, fun i hi => (hth i hi).2.2, ?_⟩
    · intro i hi
      have g := cells i hi
      simp only [plain, plain2] at g
      exact ⟨g 0 _ rfl, g 1 _ rfl, g 2 _ rfl, g 3 _ rfl⟩
    · simp only [Prod.mk.injEq] at hx
      rw [hx.1]
      congr 1
      exact List.map_congr_left fun i hi => (hth i (by simpa using hi)).2.1

end Go.Proofs.Ytbkkkjegbdbeeaa.packReads
