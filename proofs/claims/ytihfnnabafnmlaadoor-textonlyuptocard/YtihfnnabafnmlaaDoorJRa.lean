/- Contracts, over the turned program: the document's names of the Ops, and its digits of sixteen. Conditions: those that each theorem states. -/
import Derived.Test.YtihfnnabafnmlaaDoorJLine
import Derived.Test.YtihfnnabafnmlaaDoorIRw
import Derived.Test.YtihfnnabafnmlaaDoorIApp
namespace Go.Proofs.YtihfnnabafnmlaaDoor
open Go.RowKit
set_option linter.unusedVariables false

def nmC : Array Value := (nmL.map (fun l => Value.string (mkB l))).toArray
theorem nm_cell (w : World) (k : Nat) (h : k < 19) : (w.alloc (.cells nmC 9)).cell? ⟨w.heap.size, k, none⟩ = some (.string (mkB (nmL.getD k []))) := by
  rw [cell_of_row _ _ k _ _ _ (heap_alloc_new w (.cells nmC 9))]
  have key : ∀ k : Nat, k < 19 → nmL[k]? = some (nmL.getD k []) := by decide
  unfold nmC
  rw [List.getElem?_toArray, List.getElem?_map, key k h]
  rfl

theorem dig_const : ∀ n : Nat, n < 16 → (⟨#[48, 49, 50, 51, 52, 53, 54, 55, 56, 57, 97, 98, 99, 100, 101, 102]⟩ : ByteArray).extract n (n + 1) = mkB [hexD n] := by
  decide +kernel

/-- A digit's number, or -1. -/
def nibI (c : UInt8) : Int := match nibU c with | some n => n | none => -1
theorem nib_hit (c : UInt8) (k : Nat) (hk : k < 16) (h : hexD k = c) : nibI c = k := by
  unfold nibI
  rw [← h, nib_hex hk]
theorem nib_no (c : UInt8) (h : ∀ k, k < 16 → hexD k ≠ c) : nibI c = -1 := by
  unfold nibI
  cases hn : nibU c with
  | none => rfl
  | some n => exact absurd (hex_nib hn).1 (h n (hex_nib hn).2)
theorem textEqJ (a b : ByteArray) : (a.toList == b.toList) = decide (a = b) := by
  rw [Bool.eq_iff_iff, beq_iff_eq, decide_eq_true_iff, ByteArray.toList_eq, ByteArray.toList_eq]
  exact ⟨fun h => ByteArray.ext (Array.toList_inj.1 h), fun h => by rw [h]⟩
theorem beq_one (a c : UInt8) : ((mkB [a]).toList == (mkB [c]).toList) = decide (a = c) := by
  rw [textEqJ, decide_eq_decide]
  constructor
  · intro h
    have h2 : (mkB [a]).data = (mkB [c]).data := by rw [h]
    have h3 : #[a] = #[c] := h2
    simpa using h3
  · intro h; rw [h]
theorem grown_drew (w : World) : w.grownBy w.drew none := ⟨rfl, rfl, rfl, Nat.le_refl _, fun _ _ _ => rfl⟩
theorem conv_one (wr : World) (c : UInt8) : (convert 41 9 (.slice (some ⟨wr.heap.size, 0, none⟩) 1 1)).run Tryd.prog (wr.alloc (.cells #[.int .u8 (c.toNat : Int)] 5)).drew = .ok (.string (mkB [c])) (wr.alloc (.cells #[.int .u8 (c.toNat : Int)] 5)).drew := by
  exact run_convert_bytes_back (P := Tryd.prog) _ 41 9 5 ⟨wr.heap.size, 0, none⟩ 1 [c] Tryd.underlying41 Tryd.underlying5 Tryd.underlying9 (fun j hj => by
    obtain rfl : j = 0 := by simpa using hj
    rw [addr_plainI]
    simp)

end Go.Proofs.YtihfnnabafnmlaaDoor
