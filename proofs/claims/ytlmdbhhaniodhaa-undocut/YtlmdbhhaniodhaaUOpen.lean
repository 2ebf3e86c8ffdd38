/- How lists of numbers and of texts, and a pair of numbers, that came in lie in memory: their reading opened. No conditions but those that each theorem states. -/
import Derived.Test.YtlmdbhhaniodhaaRows
import Derived.Test.YtlmdbhhaniodhaaUDir
import Derived.ProofKit
import Derived.OpenShut
import Derived.Lib.SmallJoins
import Derived.Deep.Strs
namespace Go.Proofs.Ytlmdbhhaniodhaa
open Go.ChangeShapes Go.WideShapes Go.ChangeAt Go.RowKit Go.Joins Go.Deep
set_option linter.unusedVariables false

/-- A slice that came in, of elements of one cell each. -/
theorem open_sl {α : Type} [Inhabited α] (f : α → Value) (q : α → Prop) {t e : TypeId} (ht : Try.prog.underlying t = some (.slice e)) (hce : Try.prog.cellsOf e = 1) {H : Type} {enc : TypeId × Value → H} {W : World}
    (he : ∀ (fuel : Nat) (cs : List Value) (x : DataW H × List MemPlace), DataW.trod enc Try.prog W 0 (fun _ => true) true fuel e cs = some x → ∃ k : α, cs = [f k] ∧ q k)
    {base : Nat} {v : Value} {d : DataW H} {p : List MemPlace} (hok : Value.okWide Try.prog W .any base t v) (h : DataW.Trod enc Try.prog W 0 (fun _ => true) true t v d p) : ∃ l : List α, Sl f W.heap.size W v l ∧ ∀ z ∈ l, q z := by
  obtain ⟨a0, len0, cap0, rfl⟩ := okWide_slice ht hok
  obtain ⟨fuel, hf⟩ := h
  rcases open_slice ht hf with ⟨hcs, hx⟩ | ⟨a, len, c, m, n, D, Pl, hcs, _, hl, hm, hmm, hx, hel⟩
  · refine ⟨[], ?_, by simp⟩
    have : Value.slice a0 len0 cap0 = .slice none 0 0 := by simpa [Value.cells] using hcs
    rw [this]
    exact Sl.nil _ _ _
  · simp only [if_true] at hmm
    subst hmm
    rw [hce] at hel
    obtain ⟨th, hth⟩ := choose_lt (α := α) (n := len) (p := fun i k => W.cells? 0 (a.add (i * 1)) 1 = some [f k] ∧ q k) (fun i hi => by
      obtain ⟨cs', h1, h2⟩ := hel i (by omega)
      obtain ⟨k, e0, hq⟩ := he _ _ _ h2
      subst e0
      exact ⟨k, h1, hq⟩)
    obtain ⟨b, off, spot⟩ := a
    have cells : ∀ i, i < len → W.cell? (((⟨b, off, spot⟩ : Addr).add (i * 1)).add 0) = some (f (th i)) := by
      intro i hi
      rw [(World.cells?_some (hth i hi).1).2.2 0 (by omega)]
      rfl
    have hv : Value.slice a0 len0 cap0 = .slice (some ⟨b, off, spot⟩) len m := by simpa [Value.cells] using hcs
    refine ⟨(List.range len).map th, ⟨some ⟨b, off, spot⟩, m, by rw [hv]; simp, by simpa using hl, hm, ?_⟩, ?_⟩
    · intro i hi
      have hi' : i < len := by simpa using hi
      have hspot : spot = none := by simpa [Addr.add] using World.cell?_spot (cells 0 (by omega))
      subst hspot
      have plain2 : ∀ o q, (⟨b, o, none⟩ : Addr).add q = ⟨b, o + q, none⟩ := by intro o q; unfold Addr.add; split <;> simp_all
      have g := cells i hi'
      simp only [plain2, Nat.mul_one, Nat.add_zero] at g
      have e : ((List.range len).map th)[i] = th i := by simp
      exact ⟨b, off, rfl, lt_of_cell g, by rw [e]; exact g⟩
    · intro z hz
      obtain ⟨i, hi, rfl⟩ := List.mem_map.1 hz
      exact (hth i (by simpa using hi)).2
theorem i64_wf {n : Int} (h : (Lit.int .i64 n).wf = true) : -9223372036854775808 ≤ n ∧ n < 9223372036854775808 := by
  simp [Lit.wf, IntKind.min, IntKind.max, IntKind.signed, IntKind.bits] at h
  omega
theorem open_ints {H : Type} {enc : TypeId × Value → H} {W : World} {base : Nat} {v : Value} {d : DataW H} {p : List MemPlace} (hok : Value.okWide Try.prog W .any base 22 v) (h : DataW.Trod enc Try.prog W 0 (fun _ => true) true 22 v d p) :
    ∃ l : List Int, Sl (Value.int .i64) W.heap.size W v l ∧ i64s l :=
  open_sl (Value.int .i64) (fun z => -9223372036854775808 ≤ z ∧ z < 9223372036854775808) Try.underlying22 (by kernel_rfl) (fun fuel cs x hx => by
    obtain ⟨k, e0, _, hw⟩ := DataW.trod_int Try.underlying3 hx
    exact ⟨k, e0, i64_wf hw⟩) hok h
theorem open_strs {H : Type} {enc : TypeId × Value → H} {W : World} {base : Nat} {v : Value} {d : DataW H} {p : List MemPlace} (hok : Value.okWide Try.prog W .any base 31 v) (h : DataW.Trod enc Try.prog W 0 (fun _ => true) true 31 v d p) :
    ∃ l : List ByteArray, Sl Value.string W.heap.size W v l ∧ ∀ s ∈ l, s.size ≤ maxLen :=
  open_sl Value.string (fun s => s.size ≤ maxLen) Try.underlying31 (by kernel_rfl) (fun fuel cs x hx => by
    obtain ⟨k, e0, _, hw⟩ := DataW.trod_string Try.underlying9 hx
    exact ⟨k, e0, hw⟩) hok h
theorem open_pair {H : Type} {enc : TypeId × Value → H} {W : World} {base : Nat} {v : Value} {d : DataW H} {p : List MemPlace} (hok : Value.okWide Try.prog W .any base 37 v) (h : DataW.Trod enc Try.prog W 0 (fun _ => true) true 37 v d p) :
    ∃ x y : Int, v = .agg #[.int .i64 x, .int .i64 y] ∧ (-9223372036854775808 ≤ x ∧ x < 9223372036854775808) ∧ (-9223372036854775808 ≤ y ∧ y < 9223372036854775808) := by
  obtain ⟨cs, rfl, hsz, _⟩ : ∃ cs, v = .agg cs ∧ cs.size = Try.prog.cellsOf 37 ∧ Row.okWide Try.prog W .any base 37 cs := by
    simpa [Value.okWide, Try.underlying37] using hok
  obtain ⟨fuel, hf⟩ := h
  obtain ⟨xs, m, _, _, hl, hxl, hel⟩ := DataW.trod_array Try.underlying37 hf
  rw [show Try.prog.cellsOf 37 = 2 by kernel_rfl] at hl
  rw [show Try.prog.cellsOf 3 = 1 by kernel_rfl] at hel
  have h0 := hel 0 (by omega)
  have h1 := hel 1 (by omega)
  rw [List.getElem?_eq_getElem (by omega)] at h0 h1
  obtain ⟨a, e0, _, w0⟩ := DataW.trod_int Try.underlying3 h0
  obtain ⟨b, e1, _, w1⟩ := DataW.trod_int Try.underlying3 h1
  refine ⟨a, b, ?_, i64_wf w0, i64_wf w1⟩
  congr 1
  have hl' : cs.toList.length = 2 := hl
  have e0' : (cs.toList.drop (0 * 1)).take 1 = [.int .i64 a] := e0
  have e1' : (cs.toList.drop (1 * 1)).take 1 = [.int .i64 b] := e1
  match hc : cs.toList, hl' with
  | [c0, c1], _ =>
    rw [hc] at e0' e1'
    simp at e0' e1'
    rw [← Array.toList_inj, hc, e0', e1']

end Go.Proofs.Ytlmdbhhaniodhaa
