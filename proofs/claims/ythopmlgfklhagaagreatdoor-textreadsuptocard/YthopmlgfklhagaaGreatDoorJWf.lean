/- Numbers as words, in plain words (no program): the library's reading of a decimal word tells the number whose word it is. No conditions but those that each theorem states. -/
import Derived.Test.YthopmlgfklhagaaGreatDoorJLine
import Derived.Lib.ParseIntB
namespace Go.Proofs.YthopmlgfklhagaaGreatDoor
open Go Go.RowKit
set_option linter.unusedVariables false

theorem fold_ge : ∀ (l : List UInt8) (a : Nat), a ≤ l.foldl (fun a c => 10 * a + (c.toNat - 48)) a
  | [], a => Nat.le_refl a
  | c :: l, a => Nat.le_trans (by omega) (fold_ge l (10 * a + (c.toNat - 48)))
theorem parseM : ∀ (l : List UInt8) (a : Nat), l.all isDg = true → l.foldl (fun a c => 10 * a + (c.toNat - 48)) a ≤ 18446744073709551615 → Lib.parseUintM 18446744073709551615 a l = .ok (l.foldl (fun a c => 10 * a + (c.toNat - 48)) a)
  | [], a, _, _ => rfl
  | c :: l, a, h, hv => by
    rw [List.all_cons, Bool.and_eq_true] at h
    have h1 := of_decide_eq_true h.1
    rw [List.foldl_cons] at hv ⊢
    have h2 := fold_ge l (10 * a + (c.toNat - 48))
    rw [Lib.parseUintM, if_pos h1, if_neg (by omega), if_neg (by omega), Nat.mul_comm a 10]
    exact parseM l _ h.2 hv
theorem parse_dec (u : Nat) (h : u ≤ 18446744073709551615) : Lib.parseUintB 64 (Lib.decDigits u) = .ok u := by
  have h1 := parseM (Lib.decDigits u) 0 (dec_digits u) (by have := dec_back u; unfold decV at this; omega)
  have h2 := dec_back u
  unfold decV at h2
  rw [h2] at h1
  unfold Lib.parseUintB
  rw [if_neg (dec_ne u)]
  exact h1
theorem parse_itoa (z : Int) (h0 : -9223372036854775808 ≤ z) (h1 : z < 9223372036854775808) : Lib.parseIntB 64 (Lib.itoa z) = .ok z := by
  unfold Lib.itoa
  by_cases hz : z < 0
  · rw [if_pos hz]
    have h := parse_dec z.natAbs (by omega)
    have e : (45 : UInt8).toNat = 45 := rfl
    unfold Lib.parseIntB
    dsimp only
    rw [if_pos (.inr e), h]
    dsimp only
    rw [if_neg (fun h => h.1 e), if_neg (fun h => by have := h.2; omega), if_pos e]
    congr 1
    omega
  · rw [if_neg hz]
    have h := parse_dec z.toNat (by omega)
    have hd := dec_digits z.toNat
    cases hc : Lib.decDigits z.toNat with
    | nil => exact absurd hc (dec_ne _)
    | cons c r =>
      rw [hc] at h hd
      rw [List.all_cons, Bool.and_eq_true] at hd
      have hg := of_decide_eq_true hd.1
      unfold Lib.parseIntB
      dsimp only
      rw [if_neg (by omega), h]
      dsimp only
      rw [if_neg (fun h => by have := h.2; omega), if_neg (fun h => by have := h.1; omega), if_neg (by omega)]
      congr 1
      omega

end Go.Proofs.YthopmlgfklhagaaGreatDoor
