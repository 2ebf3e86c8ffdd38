/- Bytes are ordered as tuples are, in plain words (no program). No conditions but those that each theorem states. -/
import Derived.Test.YtiledkdoabdnnaaKCmpRef
import Derived.Test.YtiledkdoabdnnaaKParse
namespace Go.Proofs.Ytiledkdoabdnnaa
open Go Go.RowKit
open Go.Lib (compareBytes)
set_option linter.unusedVariables false

theorem cmpB_cons (x y : UInt8) (a b : List UInt8) : compareBytes (x :: a) (y :: b) = if x < y then -1 else if y < x then 1 else compareBytes a b := rfl
theorem cmpB_self (a : List UInt8) : compareBytes a a = 0 := by
  induction a with
  | nil => rfl
  | cons x a ih => rw [cmpB_eq, ih]
theorem cmpB_zero (a : List UInt8) : ∀ b, compareBytes a b = 0 ↔ a = b := by
  induction a with
  | nil => intro b; cases b <;> simp [compareBytes]
  | cons x a ih =>
    intro b
    cases b with
    | nil => simp [compareBytes]
    | cons y b =>
      unfold compareBytes
      rcases Nat.lt_trichotomy x.toNat y.toNat with h | h | h
      · have h1 : x < y := UInt8.lt_iff_toNat_lt.2 h
        have h2 : x ≠ y := by intro e; subst e; omega
        simp [h1, h2]
      · have e : x = y := UInt8.toNat_inj.1 h
        subst e
        have h1 : ¬ x < x := by rw [UInt8.lt_iff_toNat_lt]; omega
        simp [h1, ih]
      · have h1 : ¬ x < y := by rw [UInt8.lt_iff_toNat_lt]; omega
        have h3 : y < x := UInt8.lt_iff_toNat_lt.2 h
        have h2 : x ≠ y := by intro e; subst e; omega
        simp [h1, h2, h3]
theorem less_cmpB (a : List UInt8) : ∀ b, Op.bytesLess a b = decide (compareBytes a b < 0) := by
  induction a with
  | nil => intro b; cases b <;> simp [compareBytes, Op.bytesLess]
  | cons x a ih =>
    intro b
    cases b with
    | nil => simp [compareBytes, Op.bytesLess]
    | cons y b =>
      unfold compareBytes
      simp only [Op.bytesLess]
      rcases Nat.lt_trichotomy x.toNat y.toNat with h | h | h
      · have h1 : x < y := UInt8.lt_iff_toNat_lt.2 h
        simp [h1]
      · have e : x = y := UInt8.toNat_inj.1 h
        subst e
        have h1 : ¬ x < x := by rw [UInt8.lt_iff_toNat_lt]; omega
        simp [h1, ih]
      · have h1 : ¬ x < y := by rw [UInt8.lt_iff_toNat_lt]; omega
        have h3 : y < x := UInt8.lt_iff_toNat_lt.2 h
        have h2 : x ≠ y := by intro e; subst e; omega
        simp [h1, h2, h3]
/-- The first that tells. -/
def andThen0 (x y : Int) : Int := if x ≠ 0 then x else y
theorem cmpB_app (a : List UInt8) : ∀ b r q, a.length = b.length → compareBytes (a ++ r) (b ++ q) = andThen0 (compareBytes a b) (compareBytes r q) := by
  induction a with
  | nil =>
    intro b r q h
    cases b with
    | nil => rfl
    | cons y b => simp at h
  | cons x a ih =>
    intro b r q h
    cases b with
    | nil => simp at h
    | cons y b =>
      simp only [List.cons_append]
      rw [cmpB_cons, cmpB_cons]
      split
      · rfl
      · split
        · rfl
        · exact ih b r q (by simpa using h)
theorem cmpB_be (x y m : Nat) : compareBytes (be x m) (be y m) = cmpI (x % 2 ^ (8 * m) : Nat) (y % 2 ^ (8 * m) : Nat) := by
  have h1 := less_be x y m
  have h2 := less_be y x m
  rw [less_cmpB, decide_eq_decide] at h1 h2
  rw [cmpB_flip (be x m)] at h2
  generalize x % 2 ^ (8 * m) = p at *
  generalize y % 2 ^ (8 * m) = q at *
  have h3 := cmpB_cases (be x m) (be y m)
  generalize compareBytes (be x m) (be y m) = c at *
  unfold cmpI
  split
  · have := h1.2 (by omega); omega
  · split
    · have := h2.2 (by omega); omega
    · have : ¬ c < 0 := fun h => by have := h1.1 h; omega
      have : ¬ -c < 0 := fun h => by have := h2.1 h; omega
      omega
theorem u8_pos (c : UInt8) (h : c ≠ 0) : (0 : UInt8) < c ∧ ¬ c < 0 := by
  have h1 : c.toNat ≠ 0 := fun e => h (UInt8.toNat_inj.1 (by simpa using e))
  constructor
  · rw [UInt8.lt_iff_toNat_lt]; simp; omega
  · rw [UInt8.lt_iff_toNat_lt]; simp
theorem cmpB_encT (t : List UInt8) : ∀ u r q, compareBytes (encT t ++ r) (encT u ++ q) = andThen0 (compareBytes t u) (compareBytes r q) := by
  have l1 : ¬ (1 : UInt8) < 1 := by decide
  have l0 : ¬ (0 : UInt8) < 0 := by decide
  have l255 : ¬ (255 : UInt8) < 255 := by decide
  have a : (1 : UInt8) < 255 := by decide
  have b : ¬ (255 : UInt8) < 1 := by decide
  unfold encT
  induction t with
  | nil =>
    intro u r q
    cases u with
    | nil => simp [esc, compareBytes, andThen0]
    | cons d u =>
      by_cases hd : d = 0
      · subst hd; simp [esc, compareBytes, andThen0, a]
      · have := u8_pos d hd
        simp [esc, compareBytes, andThen0, hd, this]
  | cons c t ih =>
    intro u r q
    cases u with
    | nil =>
      by_cases hc : c = 0
      · subst hc; simp [esc, compareBytes, andThen0, a, b]
      · have := u8_pos c hc
        simp [esc, compareBytes, andThen0, hc, this]
    | cons d u =>
      have ih' := ih u r q
      simp only [List.append_assoc, List.cons_append, List.nil_append] at ih'
      by_cases hc : c = 0
      · subst hc
        by_cases hd : d = 0
        · subst hd
          simp [esc, compareBytes]
          exact ih'
        · have := u8_pos d hd
          simp [esc, compareBytes, andThen0, hd, this]
      · by_cases hd : d = 0
        · subst hd
          have := u8_pos c hc
          simp [esc, compareBytes, andThen0, hc, this]
        · simp only [esc, hc, hd, if_false, List.cons_append, List.append_assoc, List.nil_append]
          rw [cmpB_cons, cmpB_cons]
          split
          · rfl
          · split
            · rfl
            · exact ih'
theorem cmpI_up (m n : Int) (h0 : -9223372036854775808 ≤ m) (h1 : m < 9223372036854775808) (h2 : -9223372036854775808 ≤ n) (h3 : n < 9223372036854775808) :
    cmpI (up m % 2 ^ (8 * 8) : Nat) (up n % 2 ^ (8 * 8) : Nat) = cmpI m n := by
  unfold cmpI up
  have e1 : (((m + 9223372036854775808).toNat % 2 ^ (8 * 8) : Nat) : Int) = m + 9223372036854775808 := by omega
  have e2 : (((n + 9223372036854775808).toNat % 2 ^ (8 * 8) : Nat) : Int) = n + 9223372036854775808 := by omega
  rw [e1, e2]
  split <;> split <;> (try split) <;> (try split) <;> omega
theorem cmpB_encV (x y : V) (r q : List UInt8) (hx : x.wf) (hy : y.wf) (kx : okV x = true) (ky : okV y = true) :
    compareBytes (encV x ++ r) (encV y ++ q) = andThen0 (cmpV x y) (compareBytes r q) := by
  obtain ⟨xk, xn, xs⟩ := x
  obtain ⟨yk, yn, ys⟩ := y
  have l12 : (1 : UInt8) < 2 := by decide
  have l21 : ¬ (2 : UInt8) < 1 := by decide
  rcases (okV_iff _).1 kx with ⟨h1, h2⟩ | ⟨h1, h2⟩ <;> rcases (okV_iff _).1 ky with ⟨g1, g2⟩ | ⟨g1, g2⟩ <;> dsimp only at h1 h2 g1 g2 <;> subst h1 g1
  · have e1 : encV ⟨1, xn, xs⟩ = 1 :: be (up xn) 8 := rfl
    have e2 : encV ⟨1, yn, ys⟩ = 1 :: be (up yn) 8 := rfl
    rw [e1, e2, List.cons_append, List.cons_append, cmpB_eq, cmpB_app _ _ _ _ (by rw [be_len, be_len]), cmpB_be, cmpI_up _ _ hx.n0 hx.n1 hy.n0 hy.n1]
    congr 1
    unfold cmpV orI
    dsimp only
    rw [h2, g2, cmpB_self]
    have : cmpI 1 1 = 0 := by decide
    rw [this]
    simp only [ne_eq, not_true, if_false]
    split
    · rfl
    · omega
  · simp [encV, compareBytes, cmpV, orI, cmpI, andThen0, l12]
  · simp [encV, compareBytes, cmpV, orI, cmpI, andThen0, l12, l21]
  · have e1 : encV ⟨2, xn, xs⟩ = 2 :: encT xs.data.toList := rfl
    have e2 : encV ⟨2, yn, ys⟩ = 2 :: encT ys.data.toList := rfl
    rw [e1, e2, List.cons_append, List.cons_append, cmpB_eq, cmpB_encT]
    congr 1
    subst h2 g2
    simp [cmpV, orI, cmpI]
theorem cmpB_encL (a : List V) : ∀ b, (∀ x ∈ a, x.wf) → (∀ x ∈ b, x.wf) → a.all okV = true → b.all okV = true → compareBytes (encL a) (encL b) = cmpL a b := by
  induction a with
  | nil =>
    intro b _ _ _ _
    cases b with
    | nil => rfl
    | cons y b =>
      have e : encL (y :: b) = encV y ++ encL b := by simp [encL]
      rw [e]
      cases h : encV y with
      | nil => exact absurd h (encV_ne y)
      | cons c r => rfl
  | cons x a ih =>
    intro b ha hb ka kb
    simp only [List.all_cons, Bool.and_eq_true] at ka
    have e1 : encL (x :: a) = encV x ++ encL a := by simp [encL]
    cases b with
    | nil =>
      rw [e1]
      cases h : encV x with
      | nil => exact absurd h (encV_ne x)
      | cons c r => rfl
    | cons y b =>
      simp only [List.all_cons, Bool.and_eq_true] at kb
      have e2 : encL (y :: b) = encV y ++ encL b := by simp [encL]
      rw [e1, e2, cmpB_encV x y _ _ (ha x (by simp)) (hb y (by simp)) ka.1 kb.1, ih b (fun z hz => ha z (by simp [hz])) (fun z hz => hb z (by simp [hz])) ka.2 kb.2]
      rfl
theorem cmpL_flip (a : List V) : ∀ b, cmpL b a = - cmpL a b := by
  induction a with
  | nil => intro b; cases b <;> rfl
  | cons x a ih =>
    intro b
    cases b with
    | nil => rfl
    | cons y b =>
      unfold cmpL
      rw [cmpV_flip x y]
      by_cases h : cmpV x y = 0
      · simp [h, ih b]
      · have : - cmpV x y ≠ 0 := by omega
        simp [h, this]
theorem cmpL_cases (a : List V) : ∀ b, cmpL a b = -1 ∨ cmpL a b = 0 ∨ cmpL a b = 1 := by
  induction a with
  | nil => intro b; cases b; exact .inr (.inl rfl); exact .inl rfl
  | cons x a ih =>
    intro b
    cases b with
    | nil => exact .inr (.inr rfl)
    | cons y b =>
      unfold cmpL
      split
      · exact cmpV_cases x y
      · exact ih b

end Go.Proofs.Ytiledkdoabdnnaa
