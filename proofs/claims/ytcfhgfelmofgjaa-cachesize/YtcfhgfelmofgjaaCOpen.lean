/- The arguments of the laws of layer 7, opened: steps, a pair of sizes; the laws' early. Conditions: those that each theorem states. -/
import Derived.Test.YtcfhgfelmofgjaaPOpenB
namespace Go.Proofs.Ytcfhgfelmofgjaa
open Go.ChangeShapes Go.WideShapes Go.ChangeAt Go.RowKit Go.Joins
set_option linter.unusedVariables false

/-- A step: a page, a byte, whether it is a commit. -/
structure Cop where
  n : Int
  b : UInt8
  wr : Bool
def Cop.cells (o : Cop) : Array Value := #[.int .i64 o.n, .int .u8 (o.b.toNat : Int), .bool o.wr]
def Cop.ok (o : Cop) : Prop := -9223372036854775808 ≤ o.n ∧ o.n < 9223372036854775808
theorem cellsCop : Try.prog.cellsOf 34 = 3 := by kernel_rfl
theorem trod_struct3 {H : Type} {enc : TypeId × Value → H} {P : Program} {w : World} {base : Nat} {spare : Nat → Bool} {held : Bool} {t : TypeId} {f0 f1 f2 : Field} {fuel : Nat} {cs : List Value} {x : DataW H × List MemPlace} (ht : P.underlying t = some (.struct #[f0, f1, f2])) (h : DataW.trod enc P w base spare held fuel t cs = some x) :
    ∃ y0 y1 y2 n, cs.length = P.cellsOf t ∧ DataW.trod enc P w base spare held n f0.type ((cs.drop f0.offset).take (P.cellsOf f0.type)) = some y0 ∧
      DataW.trod enc P w base spare held n f1.type ((cs.drop f1.offset).take (P.cellsOf f1.type)) = some y1 ∧ DataW.trod enc P w base spare held n f2.type ((cs.drop f2.offset).take (P.cellsOf f2.type)) = some y2 := by
  obtain ⟨xs, n, _, rfl, hl, hlen, hf⟩ := DataW.trod_struct ht h
  match xs, hlen with
  | [y0, y1, y2], _ => exact ⟨y0, y1, y2, n, hl, by simpa using hf 0 f0 rfl, by simpa using hf 1 f1 rfl, by simpa using hf 2 f2 rfl⟩
theorem cellsU8c : Try.prog.cellsOf 5 = 1 := by kernel_rfl
theorem cellsBoc : Try.prog.cellsOf 4 = 1 := by kernel_rfl
set_option maxRecDepth 100000 in
theorem open_cop {H : Type} {enc : TypeId × Value → H} {W : World} {fuel : Nat} {cs : List Value} {x : DataW H × List MemPlace} (h : DataW.trod enc Try.prog W 0 (fun _ => true) true fuel 34 cs = some x) :
    ∃ o : Cop, cs = o.cells.toList ∧ o.ok := by
  obtain ⟨y0, y1, y2, n, hl, h0, h1, h2⟩ := trod_struct3 Try.underlying34 h
  rw [cellsCop] at hl
  match cs, hl with
  | [c0, c1, c2], _ =>
    obtain ⟨k, e0, _, hw⟩ := DataW.trod_int Try.underlying3 h0
    obtain ⟨z, e1, _, hw1⟩ := DataW.trod_int Try.underlying5 h1
    obtain ⟨b, e2, _⟩ := DataW.trod_bool Try.underlying4 h2
    simp [Lit.wf, IntKind.min, IntKind.max, IntKind.signed, IntKind.bits] at hw1
    simp [cellsIb, cellsU8c, cellsBoc] at e0 e1 e2
    subst e0 e1 e2
    refine ⟨⟨k, UInt8.ofNat z.toNat, b⟩, ?_, i64_wfB hw⟩
    unfold Cop.cells
    have : ((UInt8.ofNat z.toNat).toNat : Int) = z := by simp; omega
    rw [this]
set_option maxRecDepth 100000 in
theorem open_cops {H : Type} {enc : TypeId × Value → H} {W : World} {a0 : Option Addr} {len cap : Nat} {d : DataW H} {p : List MemPlace} (h : DataW.Trod enc Try.prog W 0 (fun _ => true) true 22 (.slice a0 len cap) d p) :
    ∃ l : List Cop, Sts Cop.cells 3 (fun o _ => o.ok) W.heap.size W (.slice a0 len cap) l := by
  haveI : Inhabited Cop := ⟨⟨0, 0, false⟩⟩
  obtain ⟨l, hl, _⟩ := open_sts Cop.cells 3 (by omega) (fun _ => rfl) (fun o _ => o.ok) (fun _ _ => True) (fun _ _ _ _ _ => trivial) Try.underlying22 cellsCop (fun fuel cs x hx => by
    obtain ⟨c, h1, h2⟩ := open_cop hx
    exact ⟨c, h1, h2, trivial⟩) h
  exact ⟨l, hl⟩
set_option maxRecDepth 100000 in
theorem open_two {H : Type} {enc : TypeId × Value → H} {W : World} {base : Nat} {v : Value} {d : DataW H} {p : List MemPlace} (hok : Value.okWide Try.prog W .any base 38 v) (h : DataW.Trod enc Try.prog W 0 (fun _ => true) true 38 v d p) :
    ∃ x y : Int, v = .agg #[.int .i64 x, .int .i64 y] ∧ (-9223372036854775808 ≤ x ∧ x < 9223372036854775808) ∧ (-9223372036854775808 ≤ y ∧ y < 9223372036854775808) := by
  obtain ⟨cs, rfl, hsz, _⟩ : ∃ cs, v = .agg cs ∧ cs.size = Try.prog.cellsOf 38 ∧ Row.okWide Try.prog W .any base 38 cs := by
    simpa [Value.okWide, Try.underlying38] using hok
  obtain ⟨fuel, hf⟩ := h
  obtain ⟨xs, m, _, _, hl, hxl, hel⟩ := DataW.trod_array Try.underlying38 hf
  rw [show Try.prog.cellsOf 38 = 2 by kernel_rfl] at hl
  rw [show Try.prog.cellsOf 3 = 1 by kernel_rfl] at hel
  have h0 := hel 0 (by omega)
  have h1 := hel 1 (by omega)
  rw [List.getElem?_eq_getElem (by omega)] at h0 h1
  obtain ⟨a, e0, _, w0⟩ := DataW.trod_int Try.underlying3 h0
  obtain ⟨b, e1, _, w1⟩ := DataW.trod_int Try.underlying3 h1
  refine ⟨a, b, ?_, i64_wfB w0, i64_wfB w1⟩
  congr 1
  have hl' : cs.toList.length = 2 := hl
  have e0' : (cs.toList.drop (0 * 1)).take 1 = [.int .i64 a] := e0
  have e1' : (cs.toList.drop (1 * 1)).take 1 = [.int .i64 b] := e1
  match hc : cs.toList, hl' with
  | [c0, c1], _ =>
    rw [hc] at e0' e1'
    simp at e0' e1'
    rw [← Array.toList_inj, hc, e0', e1']
set_option maxRecDepth 100000 in
set_option maxHeartbeats 400000 in
theorem cearly_any (a : Option Addr) (n c : Nat) (w : World) (h1 : n ≤ c) (h2 : c ≤ maxLen) : Calls Try.prog 6 #[.slice a n c] w fun e w' => e = .returned (.slice a (min n 300) c) ∧ w' = w := by
  unfold maxLen at h2
  have e1 : (min (n : Int) 300).toNat = min n 300 := by omega
  go_enter Try.func6, Try.ntmps6
  go_wp2
  go_ret
  refine ⟨?_, rfl⟩
  first | rfl | (rw [← e1]; rfl)

end Go.Proofs.Ytcfhgfelmofgjaa
