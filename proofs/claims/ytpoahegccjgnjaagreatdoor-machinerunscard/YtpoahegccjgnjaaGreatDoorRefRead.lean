/- Contracts, over the turned program: each method of the reference's reader answers as pack's reader does over the bytes that are left, and leaves itself so. Conditions: those that each theorem states. -/
import Derived.Test.YtpoahegccjgnjaaGreatDoorRef
import Derived.Deep.QuietTactic
import Derived.Deep.CutRange
import Derived.Deep.RegionWith
import Derived.BigQuiet
namespace Go.Proofs.YtpoahegccjgnjaaGreatDoor
open Go.RowKit
set_option linter.unusedVariables false

theorem grown_drewN (w : World) (n : Nat) (row : Option Nat) : w.grownBy (w.drewN n) row := ⟨rfl, rfl, rfl, Nat.le_refl _, fun _ _ _ => rfl⟩

/-- The bytes that are left. -/
def rest (s : ByteArray) (p : Nat) : ByteArray := s.extract p s.size
theorem rest_size (s : ByteArray) (p : Nat) : (rest s p).size = s.size - p := by unfold rest; rw [ByteArray.size_extract, Nat.min_self]
theorem rest_ext (s : ByteArray) (p m : Nat) (h : p + m ≤ s.size) : (rest s p).extract 0 m = s.extract p (p + m) := by
  apply ByteArray.ext
  apply Array.ext'
  unfold rest
  rw [ext_list, ext_list, ext_list, List.drop_zero, Nat.sub_zero, List.take_take]
  congr 1
  omega
theorem rest_ext1 (s : ByteArray) (p m : Nat) (h : p + (1 + m) ≤ s.size) : (rest s p).extract 1 (1 + m) = s.extract (p + 1) (p + (1 + m)) := by
  apply ByteArray.ext
  apply Array.ext'
  unfold rest
  rw [ext_list, ext_list, ext_list, List.drop_take, List.drop_drop, List.take_take]
  congr 1
  omega
theorem rest_rest (s : ByteArray) (p m : Nat) (h : p + m ≤ s.size) : (rest s p).extract m (rest s p).size = rest s (p + m) := by
  apply ByteArray.ext
  apply Array.ext'
  rw [rest_size]
  unfold rest
  rw [ext_list, ext_list, ext_list, List.drop_take, List.drop_drop, List.take_take]
  congr 1
  omega
theorem rest_self (s : ByteArray) : rest s 0 = s := by
  apply ByteArray.ext
  apply Array.ext'
  unfold rest
  rw [ext_list, List.drop_zero, Nat.sub_zero]
  exact List.take_of_length_le (by rw [len_data]; omega)

theorem grown_then_drewN {w w' : World} {row : Option Nat} (h : w.grownBy w' row) (n : Nat) : w.grownBy (w'.drewN n) row := ⟨h.os, h.tape, h.output, h.size, h.block⟩
theorem grown_none {w w' : World} {row : Option Nat} (h : w.grownBy w' none) : w.grownBy w' row := ⟨h.os, h.tape, h.output, h.size, fun k hk _ => h.block k hk (by simp)⟩

theorem mul_step (x : Nat) (c : UInt8) (hx : x < 72057594037927936) : IntKind.u64.wrap (IntKind.u64.wrap (256 * (x : Int)) + IntKind.u64.wrap (c.toNat : Int)) = ((x * 256 + c.toNat : Nat) : Int) := by
  have hc := c.toNat_lt
  rw [IntKind.wrap_u64, IntKind.wrap_u64, IntKind.wrap_u64]
  omega

theorem strN_rest (s : ByteArray) (p : Nat) (h : p < s.size) : (s[p].toNat : Int) = (strN (rest s p) : Int) := by
  have e : (rest s p).data.toList = s.data.toList.drop p := by unfold rest; rw [ext_list]; exact List.take_of_length_le (by rw [List.length_drop, len_data]; omega)
  unfold strN
  rw [e]
  have hl : p < s.data.toList.length := by rw [len_data]; exact h
  rw [List.drop_eq_getElem_cons hl]
  rfl

/-- A thing's kind. -/
def kindOf (t : Int) : Nat := ((t % 18446744073709551616) % 3).toNat
theorem kind_lt (t : Int) : kindOf t < 3 := by unfold kindOf; omega
theorem kind_nat (t : Int) : ∃ U : Nat, IntKind.u64.wrap t = (U : Int) ∧ U % 3 = kindOf t := by
  rw [IntKind.wrap_u64]
  refine ⟨(t % 18446744073709551616).toNat, by rw [Int.toNat_of_nonneg (Int.emod_nonneg _ (by omega))], ?_⟩
  unfold kindOf
  omega
end Go.Proofs.YtpoahegccjgnjaaGreatDoor
