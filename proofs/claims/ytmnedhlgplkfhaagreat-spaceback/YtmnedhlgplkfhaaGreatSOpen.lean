/- The arguments of the laws of layer 8, opened: steps. Conditions: those that each theorem states. -/
import Derived.Test.YtmnedhlgplkfhaaGreatCOpen
import Derived.Test.YtmnedhlgplkfhaaGreatJS4
namespace Go.Proofs.YtmnedhlgplkfhaaGreat
open Go.ChangeShapes Go.WideShapes Go.ChangeAt Go.RowKit Go.Joins
set_option linter.unusedVariables false

def Sop.ok (o : Sop) : Prop := (-9223372036854775808 ≤ o.k ∧ o.k < 9223372036854775808) ∧ -9223372036854775808 ≤ o.n ∧ o.n < 9223372036854775808
theorem cellsSop : Tryz.prog.cellsOf 31 = 3 := by kernel_rfl
set_option maxRecDepth 100000 in
theorem open_sop {H : Type} {enc : TypeId × Value → H} {W : World} {fuel : Nat} {cs : List Value} {x : DataW H × List MemPlace} (h : DataW.trod enc Tryz.prog W 0 (fun _ => true) true fuel 31 cs = some x) :
    ∃ o : Sop, cs = o.cells.toList ∧ o.ok := by
  obtain ⟨y0, y1, y2, n, hl, h0, h1, h2⟩ := trod_struct3 Tryz.underlying31 h
  rw [cellsSop] at hl
  match cs, hl with
  | [c0, c1, c2], _ =>
    obtain ⟨k, e0, _, hw⟩ := DataW.trod_int Tryz.underlying3 h0
    obtain ⟨m, e1, _, hw1⟩ := DataW.trod_int Tryz.underlying3 h1
    obtain ⟨z, e2, _, hw2⟩ := DataW.trod_int Tryz.underlying5 h2
    simp [Lit.wf, IntKind.min, IntKind.max, IntKind.signed, IntKind.bits] at hw2
    simp [cellsIb, cellsU8c] at e0 e1 e2
    subst e0 e1 e2
    refine ⟨⟨k, m, UInt8.ofNat z.toNat⟩, ?_, i64_wfB hw, i64_wfB hw1⟩
    unfold Sop.cells
    have : ((UInt8.ofNat z.toNat).toNat : Int) = z := by simp; omega
    rw [this]
set_option maxRecDepth 100000 in
theorem open_sops {H : Type} {enc : TypeId × Value → H} {W : World} {a0 : Option Addr} {len cap : Nat} {d : DataW H} {p : List MemPlace} (h : DataW.Trod enc Tryz.prog W 0 (fun _ => true) true 22 (.slice a0 len cap) d p) :
    ∃ l : List Sop, Sts Sop.cells 3 (fun o _ => o.ok) W.heap.size W (.slice a0 len cap) l := by
  haveI : Inhabited Sop := ⟨⟨0, 0, 0⟩⟩
  obtain ⟨l, hl, _⟩ := open_sts Sop.cells 3 (by omega) (fun _ => rfl) (fun o _ => o.ok) (fun _ _ => True) (fun _ _ _ _ _ => trivial) Tryz.underlying22 cellsSop (fun fuel cs x hx => by
    obtain ⟨c, h1, h2⟩ := open_sop hx
    exact ⟨c, h1, h2, trivial⟩) h
  exact ⟨l, hl⟩

end Go.Proofs.YtmnedhlgplkfhaaGreat
