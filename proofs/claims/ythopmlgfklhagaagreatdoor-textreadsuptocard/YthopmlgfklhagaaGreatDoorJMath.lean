/- Instructions as text, in plain words (no program): numbers and values as words, words as lines; what is written is read again, and what is read has just these words. No conditions but those that each theorem states. -/
import Derived.Test.YthopmlgfklhagaaGreatDoorIMath
import Derived.Lib.ItoaNum
namespace Go.Proofs.YthopmlgfklhagaaGreatDoor
open Go Go.RowKit
set_option linter.unusedVariables false

/-- The number that decimal digits are. -/
def decV (l : List UInt8) : Nat := l.foldl (fun a c => 10 * a + (c.toNat - 48)) 0
theorem decV_snoc (l : List UInt8) (c : UInt8) : decV (l ++ [c]) = 10 * decV l + (c.toNat - 48) := by simp [decV]
def isDg (c : UInt8) : Bool := decide (48 ≤ c.toNat ∧ c.toNat ≤ 57)
theorem dg_of {n : Nat} (h : n < 10) : (UInt8.ofNat (48 + n)).toNat = 48 + n := by rw [UInt8.toNat_ofNat']; omega
theorem dg_is {n : Nat} (h : n < 10) : isDg (UInt8.ofNat (48 + n)) = true := by unfold isDg; rw [dg_of h]; exact decide_eq_true (by omega)
theorem dec_small {u : Nat} (h : u < 10) : Lib.decDigits u = [UInt8.ofNat (48 + u)] := by rw [Lib.decDigits, dif_pos h]
theorem dec_big {u : Nat} (h : ¬ u < 10) : Lib.decDigits u = Lib.decDigits (u / 10) ++ [UInt8.ofNat (48 + u % 10)] := by rw [Lib.decDigits, dif_neg h]
theorem dec_back (u : Nat) : decV (Lib.decDigits u) = u := by
  induction u using Nat.strongRecOn with
  | _ u ih =>
    by_cases h : u < 10
    · rw [dec_small h]
      have := dg_of h
      simp only [decV, List.foldl_cons, List.foldl_nil]
      omega
    · rw [dec_big h, decV_snoc, ih (u / 10) (by omega), dg_of (Nat.mod_lt _ (by omega))]
      omega
theorem dec_digits (u : Nat) : (Lib.decDigits u).all isDg = true := by
  induction u using Nat.strongRecOn with
  | _ u ih =>
    by_cases h : u < 10
    · rw [dec_small h, List.all_cons, dg_is h]
      rfl
    · rw [dec_big h, List.all_append, ih (u / 10) (by omega), List.all_cons, dg_is (Nat.mod_lt u (by omega : 0 < 10))]
      rfl
theorem dec_ne (u : Nat) : Lib.decDigits u ≠ [] := by
  by_cases h : u < 10
  · rw [dec_small h]; simp
  · rw [dec_big h]; simp
/-- No nought ahead. -/
theorem dec_head (u : Nat) : 0 < u → ∀ c r, Lib.decDigits u = c :: r → c ≠ 48 := by
  induction u using Nat.strongRecOn with
  | _ u ih =>
    intro hu c r he
    by_cases h : u < 10
    · rw [dec_small h] at he
      have hc : c = UInt8.ofNat (48 + u) := by injection he with h1 h2; exact h1.symm
      intro h48
      have := dg_of h
      rw [← hc, h48] at this
      have h3 : (48 : UInt8).toNat = 48 := rfl
      omega
    · rw [dec_big h] at he
      cases hd : Lib.decDigits (u / 10) with
      | nil => exact absurd hd (dec_ne _)
      | cons c' r' =>
        rw [hd] at he
        injection he with h1 h2
        rw [← h1]
        exact ih (u / 10) (by omega) (by omega) c' r' hd
theorem snoc_ind {α : Type} {C : List α → Prop} (nil : C []) (snoc : ∀ l c, C l → C (l ++ [c])) (l : List α) : C l := by
  generalize hn : l.length = n
  induction n generalizing l with
  | zero => rw [List.eq_nil_of_length_eq_zero hn]; exact nil
  | succ n ih =>
    have hne : l ≠ [] := by intro e; rw [e] at hn; simp at hn
    rw [← List.dropLast_concat_getLast hne]
    exact snoc _ _ (ih _ (by rw [List.length_dropLast]; omega))
theorem decV_lt (l : List UInt8) (h : l.all isDg = true) : decV l < 10 ^ l.length := by
  induction l using snoc_ind with
  | nil => simp [decV]
  | snoc l c ih =>
    rw [List.all_append, Bool.and_eq_true] at h
    have h1 := ih h.1
    have h2 : isDg c = true := by simpa using h.2
    have h3 := of_decide_eq_true h2
    rw [decV_snoc, List.length_append, List.length_singleton, Nat.pow_succ]
    omega
theorem decV_pos (c : UInt8) (r : List UInt8) (h : (c :: r).all isDg = true) (hc : c ≠ 48) : 0 < decV (c :: r) := by
  have key : ∀ (r : List UInt8) (a : Nat), 0 < a → 0 < r.foldl (fun a c => 10 * a + (c.toNat - 48)) a := by
    intro r
    induction r with
    | nil => intro a h; exact h
    | cons d r ih => intro a h; rw [List.foldl_cons]; exact ih _ (by show 0 < 10 * a + (d.toNat - 48); omega)
  rw [List.all_cons, Bool.and_eq_true] at h
  have h1 := of_decide_eq_true h.1
  have h2 : c.toNat ≠ 48 := fun e => hc (UInt8.toNat_inj.1 (by simpa using e))
  show 0 < r.foldl (fun a c => 10 * a + (c.toNat - 48)) (10 * 0 + (c.toNat - 48))
  exact key r _ (by omega)
theorem dec_only (l : List UInt8) (h : l.all isDg = true) (hn : l ≠ []) (h0 : ∀ c r, l = c :: r → c = 48 → r = []) : Lib.decDigits (decV l) = l := by
  induction l using snoc_ind with
  | nil => exact absurd rfl hn
  | snoc l c ih =>
    rw [List.all_append, Bool.and_eq_true] at h
    have h2 : isDg c = true := by simpa using h.2
    have h3 := of_decide_eq_true h2
    have hc : UInt8.ofNat (48 + (c.toNat - 48)) = c := by rw [show 48 + (c.toNat - 48) = c.toNat by omega]; simp
    rw [decV_snoc]
    cases l with
    | nil =>
      rw [show decV [] = 0 from rfl, show 10 * 0 + (c.toNat - 48) = c.toNat - 48 by omega, dec_small (by omega), hc]
      rfl
    | cons d r =>
      have hd : d ≠ 48 := by
        intro e
        have := h0 d (r ++ [c]) rfl e
        simp at this
      have hp := decV_pos d r h.1 hd
      rw [dec_big (by omega), show (10 * decV (d :: r) + (c.toNat - 48)) / 10 = decV (d :: r) by omega, show (10 * decV (d :: r) + (c.toNat - 48)) % 10 = c.toNat - 48 by omega, hc, ih h.1 (by simp) (fun c' r' e e2 => by
        injection e with e3 e4
        exact absurd (e3.trans e2) hd)]
theorem dec_len (u : Nat) (h : u < 10 ^ 19) : (Lib.decDigits u).length ≤ 19 := by
  rw [Lib.decDigits_length]
  have h1 := Lib.nDigits_pos u
  rcases Nat.lt_or_ge (Lib.nDigits u) 20 with h2 | h2
  · omega
  · exfalso
    have key : ∀ u, 1 < Lib.nDigits u → 10 ^ (Lib.nDigits u - 1) ≤ u := by
      intro u
      induction u using Nat.strongRecOn with
      | _ u ih =>
        intro hn
        by_cases hs : u < 10
        · rw [Lib.nDigits_small hs] at hn; omega
        · rw [Lib.nDigits_big hs] at hn ⊢
          have hp := Lib.nDigits_pos (u / 10)
          rw [Nat.add_sub_cancel]
          rcases Nat.lt_or_ge 1 (Lib.nDigits (u / 10)) with h3 | h3
          · have h4 := ih (u / 10) (by omega) h3
            obtain ⟨m, hm⟩ : ∃ m, Lib.nDigits (u / 10) = m + 1 := ⟨Lib.nDigits (u / 10) - 1, by omega⟩
            rw [hm] at h4 ⊢
            rw [Nat.add_sub_cancel] at h4
            rw [Nat.pow_succ]
            omega
          · have h5 : Lib.nDigits (u / 10) = 1 := by omega
            rw [h5]
            omega
    have h6 := key u (by omega)
    have h7 : 10 ^ 19 ≤ 10 ^ (Lib.nDigits u - 1) := Nat.pow_le_pow_right (by omega) (by omega)
    omega

/-- Is a word the digits of a number behind a sign? -/
def okNum (m : Bool) (d : List UInt8) : Bool := decide (1 ≤ d.length ∧ d.length ≤ 19) && !(d.headD 0 == 48 && (decide (1 < d.length) || m)) && d.all isDg
def minusW (s : List UInt8) : Bool := decide (1 < s.length) && s.headD 0 == 45
def digW (s : List UInt8) : List UInt8 := if minusW s then s.tail else s
/-- The number that a word is. -/
def numW (s : List UInt8) : Option Int :=
  if okNum (minusW s) (digW s) then
    (if minusW s then (if decV (digW s) ≤ 9223372036854775808 then some (-(decV (digW s) : Int)) else none)
     else if decV (digW s) < 9223372036854775808 then some (decV (digW s) : Int) else none)
  else none
theorem dg_ne45 {c : UInt8} (h : isDg c = true) : c ≠ 45 := by
  intro e
  have := of_decide_eq_true h
  rw [e] at this
  have h3 : (45 : UInt8).toNat = 45 := rfl
  omega
theorem minus_dec (u : Nat) : minusW (Lib.decDigits u) = false := by
  have h := dec_digits u
  unfold minusW
  cases hd : Lib.decDigits u with
  | nil => rfl
  | cons c r =>
    rw [hd, List.all_cons, Bool.and_eq_true] at h
    have : (c == 45) = false := by rw [beq_eq_false_iff_ne]; exact dg_ne45 h.1
    simp [this]
theorem okNum_dec (m : Bool) (u : Nat) (h : u < 10 ^ 19) (hm : m = true → 0 < u) : okNum m (Lib.decDigits u) = true := by
  unfold okNum
  have h1 := dec_len u h
  have h2 : 1 ≤ (Lib.decDigits u).length := by
    cases hd : Lib.decDigits u with
    | nil => exact absurd hd (dec_ne u)
    | cons c r => simp
  rw [decide_eq_true ⟨h2, h1⟩, dec_digits, Bool.true_and, Bool.and_true, Bool.not_eq_true']
  rcases Nat.eq_zero_or_pos u with h0 | h0
  · subst h0
    have hmf : m = false := by cases m with | false => rfl | true => exact absurd (hm rfl) (by omega)
    rw [hmf, dec_small (by omega)]
    rfl
  · cases hd : Lib.decDigits u with
    | nil => exact absurd hd (dec_ne u)
    | cons c r =>
      have hc := dec_head u h0 c r hd
      have : (c == 48) = false := by rw [beq_eq_false_iff_ne]; exact hc
      simp [this]
theorem num_back (z : Int) (h0 : -9223372036854775808 ≤ z) (h1 : z < 9223372036854775808) : numW (Lib.itoa z) = some z := by
  unfold Lib.itoa
  by_cases hz : z < 0
  · rw [if_pos hz]
    have hp : 0 < z.natAbs := by omega
    have hm : minusW (45 :: Lib.decDigits z.natAbs) = true := by
      unfold minusW
      cases hd : Lib.decDigits z.natAbs with
      | nil => exact absurd hd (dec_ne _)
      | cons c r => simp
    have hd : digW (45 :: Lib.decDigits z.natAbs) = Lib.decDigits z.natAbs := by unfold digW; rw [hm]; rfl
    unfold numW
    rw [hm, hd, okNum_dec true _ (by omega) (fun _ => hp), if_pos rfl, if_pos rfl, dec_back, if_pos (by omega)]
    congr 1
    omega
  · rw [if_neg hz]
    have hm := minus_dec z.toNat
    have hd : digW (Lib.decDigits z.toNat) = Lib.decDigits z.toNat := by unfold digW; rw [hm]; rfl
    unfold numW
    rw [hm, hd, okNum_dec false _ (by omega) (fun h => by cases h), if_pos rfl, if_neg (by simp), dec_back, if_pos (by omega)]
    congr 1
    omega
theorem num_only (s : List UInt8) (z : Int) (h : numW s = some z) : Lib.itoa z = s ∧ -9223372036854775808 ≤ z ∧ z < 9223372036854775808 := by
  unfold numW at h
  split at h
  · next hk =>
    unfold okNum at hk
    simp only [Bool.and_eq_true, decide_eq_true_eq, Bool.not_eq_true'] at hk
    obtain ⟨⟨⟨k1, k2⟩, k3⟩, k4⟩ := hk
    have hne : digW s ≠ [] := by intro e; rw [e] at k1; simp at k1
    have h0 : ∀ c r, digW s = c :: r → c = 48 → r = [] ∧ minusW s = false := by
      intro c r e e2
      rw [e, e2] at k3
      simp at k3
      exact ⟨by have := k3.1; cases r with | nil => rfl | cons _ _ => simp at this, k3.2⟩
    have hd := dec_only (digW s) k4 hne (fun c r e e2 => (h0 c r e e2).1)
    split at h
    · next hm =>
      split at h
      · next hv =>
        have hz : z = -(decV (digW s) : Int) := (Option.some.inj h).symm
        have hpos : 0 < decV (digW s) := by
          cases hc : digW s with
          | nil => exact absurd hc hne
          | cons c r =>
            rw [hc] at k4
            exact decV_pos c r k4 (fun e => by have := (h0 c r hc e).2; rw [hm] at this; cases this)
        refine ⟨?_, by omega, by omega⟩
        unfold Lib.itoa
        rw [if_pos (by omega), show z.natAbs = decV (digW s) by omega, hd]
        unfold digW
        rw [hm]
        unfold minusW at hm
        rw [Bool.and_eq_true] at hm
        cases s with
        | nil => simp at hm
        | cons c r =>
          have : c = 45 := by simpa using hm.2
          rw [this]
          rfl
      · cases h
    · next hm =>
      split at h
      · next hv =>
        have hz : z = (decV (digW s) : Int) := (Option.some.inj h).symm
        refine ⟨?_, by omega, by omega⟩
        unfold Lib.itoa
        rw [if_neg (by omega), show z.toNat = decV (digW s) by omega, hd]
        unfold digW
        rw [if_neg hm]
      · cases h
  · cases h

end Go.Proofs.YthopmlgfklhagaaGreatDoor
