/- Contracts, over the turned program: the reference's size, Num, Str and Fits answer as pack's do. Conditions: those that each theorem states. -/
import Derived.Test.YtpoahegccjgnjaaGreatDoorJB
import Derived.WalkLawsBesides
import Derived.Deep.CutRange
import Derived.Deep.RegionWith
import Derived.Deep.RegionHeldLaw
namespace Go.Proofs.YtpoahegccjgnjaaGreatDoor
open Go.RowKit
set_option linter.unusedVariables false

theorem rfits_eq (n : Nat) (k : Int) (h : wid k ≤ 7) : decide ((n : Int) < IntKind.u64.wrap (2 ^ (8 * wid k))) = fitsB n k := by
  have h1 : 2 ^ (8 * wid k) ≤ 2 ^ 56 := Nat.pow_le_pow_right (by omega) (by omega)
  have e : ((2 : Int) ^ (8 * wid k)) = ((2 ^ (8 * wid k) : Nat) : Int) := by simp
  have h2 : (2 : Nat) ^ 56 < 18446744073709551616 := by decide
  rw [e]
  unfold fitsB
  generalize (2 : Nat) ^ (8 * wid k) = p at *
  rw [IntKind.wrap_u64]
  rw [Bool.eq_iff_iff, decide_eq_true_iff, decide_eq_true_iff]
  omega

theorem made_own (w : World) (g K : Nat) (h : w.ownsRow 0 5 1 (.slice (some ⟨g, 0, none⟩) K K) K (madeCells (Value.int .u8 0).cells (K * 1)).toList) : Own 5 w 0 (.slice (some ⟨g, 0, none⟩) K K) (List.replicate K 0) := by
  have e : (madeCells (Value.int .u8 0).cells (K * 1)).toList = bcs (List.replicate K 0) := by
    show (madeCells #[Value.int .u8 0] (K * 1)).toList = _
    rw [toList_madeCells_one]
    simp [bcs]
  unfold Own
  rw [← e, List.length_replicate]
  exact h

theorem grown_of_drew {w w' : World} {row : Option Nat} (h : w.drew.grownBy w' row) : w.grownBy w' row := ⟨h.os, h.tape, h.output, h.size, h.block⟩
theorem len_data (s : ByteArray) : s.data.toList.length = s.size := by rw [Array.length_toList]; rfl
theorem cat_small (s : ByteArray) (h : (s.size : Int) ≤ 255) : (⟨#[UInt8.ofNat s.size]⟩ : ByteArray) ++ s = ⟨(strB s.data.toList).toArray⟩ := by
  apply ByteArray.ext
  apply Array.ext'
  rw [ByteArray.data_append]
  simp only [strB]
  rw [len_data, show min s.size 255 = s.size by omega, List.take_of_length_le (by rw [len_data]; omega)]
  simp
theorem cat_great (s : ByteArray) (h : 255 < (s.size : Int)) : (⟨#[255]⟩ : ByteArray) ++ s.extract 0 255 = ⟨(strB s.data.toList).toArray⟩ := by
  apply ByteArray.ext
  apply Array.ext'
  rw [ByteArray.data_append]
  simp only [strB, Array.toList_append]
  rw [len_data, show min s.size 255 = 255 by omega, ext_list]
  simp

end Go.Proofs.YtpoahegccjgnjaaGreatDoor
