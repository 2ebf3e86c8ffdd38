/- Contracts, over the turned program: the reference's Ahead, before and Compare tell how tuples of whatever values are ordered, in the plain words that keys.Compare is told in. Conditions: those that each theorem states. -/
import Derived.Test.YtiledkdoabdnnaaKCmp
namespace Go.Proofs.Ytiledkdoabdnnaa
open Go.RowKit
open Go.Lib (compareBytes)
set_option linter.unusedVariables false

theorem cmpB_flip (a : List UInt8) : ∀ b, compareBytes b a = - compareBytes a b := by
  induction a with
  | nil => intro b; cases b <;> rfl
  | cons x a ih =>
    intro b
    cases b with
    | nil => rfl
    | cons y b =>
      unfold compareBytes
      rcases Nat.lt_trichotomy x.toNat y.toNat with h | h | h
      · have h1 : x < y := UInt8.lt_iff_toNat_lt.2 h
        have h2 : ¬ y < x := by rw [UInt8.lt_iff_toNat_lt]; omega
        simp [h1, h2]
      · have h1 : ¬ x < y := by rw [UInt8.lt_iff_toNat_lt]; omega
        have h2 : ¬ y < x := by rw [UInt8.lt_iff_toNat_lt]; omega
        simp only [h1, h2, if_false]
        exact ih b
      · have h1 : ¬ x < y := by rw [UInt8.lt_iff_toNat_lt]; omega
        have h2 : y < x := UInt8.lt_iff_toNat_lt.2 h
        simp [h1, h2]
theorem cmpB_cases (a : List UInt8) : ∀ b, compareBytes a b = -1 ∨ compareBytes a b = 0 ∨ compareBytes a b = 1 := by
  induction a with
  | nil => intro b; cases b; exact .inr (.inl rfl); exact .inl rfl
  | cons x a ih =>
    intro b
    cases b with
    | nil => exact .inr (.inr rfl)
    | cons y b =>
      unfold compareBytes
      split
      · exact .inl rfl
      · split
        · exact .inr (.inr rfl)
        · exact ih b
theorem cmpI_flip (a b : Int) : cmpI b a = - cmpI a b := by unfold cmpI; split <;> split <;> (try split) <;> omega
theorem cmpI_cases (a b : Int) : cmpI a b = -1 ∨ cmpI a b = 0 ∨ cmpI a b = 1 := by unfold cmpI; split; exact .inl rfl; split; exact .inr (.inr rfl); exact .inr (.inl rfl)
theorem cmpI_zero (a b : Int) : cmpI a b = 0 ↔ a = b := by unfold cmpI; split <;> (try split) <;> omega
theorem cmpI_neg (a b : Int) : cmpI a b < 0 ↔ a < b := by unfold cmpI; split <;> (try split) <;> omega
theorem cmpV_flip (x y : V) : cmpV y x = - cmpV x y := by
  unfold cmpV orI
  rw [cmpI_flip x.k y.k, cmpI_flip x.n y.n, cmpB_flip x.s.data.toList]
  generalize cmpI x.k y.k = p
  generalize cmpI x.n y.n = q
  by_cases hp : p = 0
  · subst hp
    by_cases hq : q = 0
    · subst hq; simp
    · have : - q ≠ 0 := by omega
      simp [hq, this]
  · have : - p ≠ 0 := by omega
    simp [hp, this]
theorem cmpV_cases (x y : V) : cmpV x y = -1 ∨ cmpV x y = 0 ∨ cmpV x y = 1 := by
  unfold cmpV orI
  split
  · exact cmpI_cases _ _
  · split
    · exact cmpI_cases _ _
    · exact cmpB_cases _ _

theorem cmpB_lt (a b : List UInt8) (x y : UInt8) (h : x ≠ y) : decide (compareBytes (x :: a) (y :: b) < 0) = decide (x.toNat < y.toNat) := by
  unfold compareBytes
  rcases Nat.lt_trichotomy x.toNat y.toNat with h1 | h1 | h1
  · have h2 : x < y := UInt8.lt_iff_toNat_lt.2 h1
    simp [h2, h1]
  · exact absurd (UInt8.toNat_inj.1 h1) h
  · have h2 : ¬ x < y := by rw [UInt8.lt_iff_toNat_lt]; omega
    have h3 : y < x := UInt8.lt_iff_toNat_lt.2 h1
    have h4 : ¬ x.toNat < y.toNat := by omega
    simp [h2, h3, h4]
theorem cmpB_eq (a b : List UInt8) (x : UInt8) : compareBytes (x :: a) (x :: b) = compareBytes a b := by
  have h : ¬ x < x := by rw [UInt8.lt_iff_toNat_lt]; omega
  simp [compareBytes, h]

end Go.Proofs.Ytiledkdoabdnnaa
