/- Plain facts on numbers and their bytes, the highest first: they are ordered as the numbers, and unlike where those are; the number that bytes are is the number again. No conditions but those that each states. -/
import Derived.Test.YtgfijbbibafdfaaGreatRead
namespace Go.Proofs.YtgfijbbibafdfaaGreat
open Go

theorem mod_step (x m : Nat) : x % 2 ^ (8 * (m + 1)) = x / 2 ^ (8 * m) % 256 * 2 ^ (8 * m) + x % 2 ^ (8 * m) := by
  rw [show 8 * (m + 1) = 8 * m + 8 by omega, Nat.pow_add, Nat.mod_mul, Nat.add_comm, Nat.mul_comm]
theorem be_toNat (x m : Nat) : (UInt8.ofNat (x / 2 ^ (8 * m))).toNat = x / 2 ^ (8 * m) % 256 := UInt8.toNat_ofNat'
theorem cmp_lt {p a b r s : Nat} (hr : r < p) (hs : s < p) : a * p + r < b * p + s ↔ a < b ∨ (a = b ∧ r < s) := by
  constructor
  · intro h
    rcases Nat.lt_trichotomy a b with h1 | h1 | h1
    · exact .inl h1
    · subst h1; exact .inr ⟨rfl, by omega⟩
    · exfalso
      have : (b + 1) * p ≤ a * p := Nat.mul_le_mul_right p h1
      rw [Nat.add_mul] at this
      omega
  · rintro (h | ⟨rfl, h⟩)
    · have : (a + 1) * p ≤ b * p := Nat.mul_le_mul_right p h
      rw [Nat.add_mul] at this
      omega
    · omega
theorem cmp_eq {p a b r s : Nat} (hr : r < p) (hs : s < p) : a * p + r = b * p + s ↔ a = b ∧ r = s := by
  constructor
  · intro h
    have h1 := (cmp_lt (a := a) (b := b) hr hs)
    have h2 := (cmp_lt (a := b) (b := a) hs hr)
    rcases Nat.lt_trichotomy a b with h3 | h3 | h3
    · have := h1.2 (.inl h3); omega
    · subst h3; exact ⟨rfl, by omega⟩
    · have := h2.2 (.inl h3); omega
  · rintro ⟨rfl, rfl⟩; rfl
theorem less_be (x y m : Nat) : Op.bytesLess (be x m) (be y m) = decide (x % 2 ^ (8 * m) < y % 2 ^ (8 * m)) := by
  induction m with
  | zero => simp [be, Op.bytesLess, Nat.mod_one]
  | succ m ih =>
    rw [mod_step x m, mod_step y m]
    have hp : 0 < 2 ^ (8 * m) := Nat.two_pow_pos _
    rw [Bool.eq_iff_iff, decide_eq_true_iff, cmp_lt (Nat.mod_lt _ hp) (Nat.mod_lt _ hp)]
    simp only [be, Op.bytesLess, ih]
    simp [UInt8.lt_iff_toNat_lt, ← UInt8.toNat_inj]
theorem eq_be (x y m : Nat) : (be x m == be y m) = decide (x % 2 ^ (8 * m) = y % 2 ^ (8 * m)) := by
  induction m with
  | zero => simp [be, Nat.mod_one]
  | succ m ih =>
    rw [mod_step x m, mod_step y m]
    have hp : 0 < 2 ^ (8 * m) := Nat.two_pow_pos _
    rw [Bool.eq_iff_iff, decide_eq_true_iff, cmp_eq (Nat.mod_lt _ hp) (Nat.mod_lt _ hp)]
    simp only [be, List.cons_beq_cons, ih]
    simp [← UInt8.toNat_inj]
theorem fold_be (x m : Nat) : ∀ a : Nat, (be x m).foldl (fun a b => a * 256 + b.toNat) a = a * 2 ^ (8 * m) + x % 2 ^ (8 * m) := by
  induction m with
  | zero => intro a; simp [be, Nat.mod_one]
  | succ m ih =>
    intro a
    simp only [be, List.foldl_cons]
    rw [ih, be_toNat, mod_step x m, Nat.add_mul, Nat.mul_assoc a, show 8 * (m + 1) = 8 + 8 * m by omega, Nat.pow_add, show (2 : Nat) ^ 8 = 256 from rfl]
    omega
theorem val_be (x m : Nat) : val (be x m) = x % 2 ^ (8 * m) := by
  unfold val
  rw [fold_be]
  simp
end Go.Proofs.YtgfijbbibafdfaaGreat
