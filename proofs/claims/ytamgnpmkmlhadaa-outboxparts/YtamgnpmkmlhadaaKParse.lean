/- Which tuple bytes are, in plain words (no program): reading goes back what is written, and what is read is just what is written. No conditions but those that each theorem states. -/
import Derived.Test.YtamgnpmkmlhadaaVals
import Derived.Test.YtamgnpmkmlhadaaJB
namespace Go.Proofs.Ytamgnpmkmlhadaa
open Go Go.RowKit
set_option linter.unusedVariables false

/-- What is read with something ahead of it. -/
def pre {A B : Type} (acc : List A) : Except Int (List A × B) → Except Int (List A × B)
  | .ok (t, q) => .ok (acc ++ t, q)
  | .error e => .error e
theorem pre_nil {A B : Type} (x : Except Int (List A × B)) : pre [] x = x := by cases x <;> rfl
theorem pre_pre {A B : Type} (a b : List A) (x : Except Int (List A × B)) : pre a (pre b x) = pre (a ++ b) x := by
  cases x with
  | error e => rfl
  | ok p => obtain ⟨t, q⟩ := p; simp [pre]
/-- The text that bytes begin with, and what is behind it; or the error. -/
def pText : List UInt8 → Except Int (List UInt8 × List UInt8)
  | [] => .error 2
  | [c] => .error 2
  | c :: m :: r => if c = 0 then (if m = 1 then .ok ([], r) else if m = 255 then pre [0] (pText r) else .error 5) else pre [c] (pText (m :: r))
theorem pText_ne (c : UInt8) (r : List UInt8) (h : c ≠ 0) : pText (c :: r) = pre [c] (pText r) := by
  cases r with
  | nil => rfl
  | cons m r => simp [pText, h]
theorem pText_00 : pText [0] = .error 2 := rfl
theorem pText_end (r : List UInt8) : pText (0 :: 1 :: r) = .ok ([], r) := by simp [pText]
theorem pText_go (r : List UInt8) : pText (0 :: 255 :: r) = pre [0] (pText r) := by simp [pText]
theorem pText_bad (m : UInt8) (r : List UInt8) (h1 : m ≠ 1) (h2 : m ≠ 255) : pText (0 :: m :: r) = .error 5 := by simp [pText, h1, h2]

theorem pText_enc (t r : List UInt8) : pText (encT t ++ r) = .ok (t, r) := by
  unfold encT
  induction t with
  | nil => exact pText_end r
  | cons c t ih =>
    unfold esc
    split
    · next h =>
      subst h
      simp only [List.cons_append, List.append_assoc] at *
      rw [pText_go, ih]
      rfl
    · next h =>
      simp only [List.cons_append, List.append_assoc] at *
      rw [pText_ne _ _ h, ih]
      rfl
/-- Bytes, told apart as pText does. -/
theorem text_ind {C : List UInt8 → Prop} (nil : C []) (z : C [0]) (e : ∀ r, C (0 :: 1 :: r)) (g : ∀ r, C r → C (0 :: 255 :: r)) (b : ∀ m r, m ≠ 1 → m ≠ 255 → C (0 :: m :: r)) (n : ∀ c r, c ≠ 0 → C r → C (c :: r)) : ∀ l, C l := by
  intro l
  generalize hn : l.length = k
  induction k using Nat.strongRecOn generalizing l with
  | _ k ih =>
    match l, hn with
    | [], _ => exact nil
    | c :: r, hn =>
      by_cases h : c = 0
      · subst h
        match r, hn with
        | [], _ => exact z
        | m :: r, hn =>
          by_cases h1 : m = 1
          · subst h1; exact e r
          · by_cases h2 : m = 255
            · subst h2; exact g r (ih r.length (by simp at hn; omega) r rfl)
            · exact b m r h1 h2
      · exact n c r h (ih r.length (by simp at hn; omega) r rfl)
theorem pText_back (l : List UInt8) : ∀ t q, pText l = .ok (t, q) → encT t ++ q = l := by
  induction l using text_ind with
  | nil => intro t q h; cases h
  | z => intro t q h; cases h
  | e r => intro t q h; rw [pText_end] at h; cases h; rfl
  | g r ih =>
    intro t q h
    rw [pText_go] at h
    cases hp : pText r with
    | error e => rw [hp] at h; cases h
    | ok p =>
      obtain ⟨t', q'⟩ := p
      rw [hp] at h
      cases h
      have := ih _ _ hp
      rw [← this]
      simp [encT, esc]
  | b m r h1 h2 => intro t q h; rw [pText_bad m r h1 h2] at h; cases h
  | n c r hc ih =>
    intro t q h
    rw [pText_ne c r hc] at h
    cases hp : pText r with
    | error e => rw [hp] at h; cases h
    | ok p =>
      obtain ⟨t', q'⟩ := p
      rw [hp] at h
      cases h
      have := ih _ _ hp
      rw [← this]
      simp [encT, esc, hc]
theorem pText_err (l : List UInt8) : ∀ e, pText l = .error e → e = 2 ∨ e = 5 := by
  induction l using text_ind with
  | nil => intro e h; cases h; exact .inl rfl
  | z => intro e h; cases h; exact .inl rfl
  | e r => intro e h; rw [pText_end] at h; cases h
  | g r ih =>
    intro e h
    rw [pText_go] at h
    cases hp : pText r with
    | error e => rw [hp] at h; cases h; exact ih _ hp
    | ok p => rw [hp] at h; cases h
  | b m r h1 h2 => intro e h; rw [pText_bad m r h1 h2] at h; cases h; exact .inr rfl
  | n c r hc ih =>
    intro e h
    rw [pText_ne c r hc] at h
    cases hp : pText r with
    | error e => rw [hp] at h; cases h; exact ih _ hp
    | ok p => rw [hp] at h; cases h

/-- The value that bytes begin with, and what is behind it; or the error. -/
def pVal : List UInt8 → Except Int (V × List UInt8)
  | [] => .error 2
  | c :: r => if c = 1 then (if r.length < 8 then .error 2 else .ok (⟨1, (val (r.take 8) : Int) - 9223372036854775808, mkB []⟩, r.drop 8))
    else if c = 2 then (match pText r with | .ok (t, q) => .ok (⟨2, 0, mkB t⟩, q) | .error e => .error e) else .error 5
theorem pVal_short (r : List UInt8) (h : r.length < 8) : pVal (1 :: r) = .error 2 := by simp [pVal, h]
theorem pVal_int (r : List UInt8) (h : ¬ r.length < 8) : pVal (1 :: r) = .ok (⟨1, (val (r.take 8) : Int) - 9223372036854775808, mkB []⟩, r.drop 8) := by simp [pVal, h]
theorem pVal_text (r t q : List UInt8) (h : pText r = .ok (t, q)) : pVal (2 :: r) = .ok (⟨2, 0, mkB t⟩, q) := by simp [pVal, h]
theorem pVal_texte (r : List UInt8) (e : Int) (h : pText r = .error e) : pVal (2 :: r) = .error e := by simp [pVal, h]
theorem pVal_bad (c : UInt8) (r : List UInt8) (h1 : c ≠ 1) (h2 : c ≠ 2) : pVal (c :: r) = .error 5 := by simp [pVal, h1, h2]

theorem be_back (l : List UInt8) : be (val l) l.length = l := by
  have key : ∀ (l : List UInt8) (a : Nat), be (l.foldl (fun a b => a * 256 + b.toNat) a) l.length = l := by
    intro l
    induction l with
    | nil => intro a; rfl
    | cons c r ih =>
      intro a
      simp only [List.foldl_cons, List.length_cons, be]
      rw [ih]
      congr 1
      have h1 : ∀ (r : List UInt8) (x : Nat), r.foldl (fun a b => a * 256 + b.toNat) x / 2 ^ (8 * r.length) = x := by
        intro r
        induction r with
        | nil => intro x; simp
        | cons d r ih2 =>
          intro x
          simp only [List.foldl_cons, List.length_cons]
          rw [show 8 * (r.length + 1) = 8 * r.length + 8 by omega, Nat.pow_add, ← Nat.div_div_eq_div_mul, ih2]
          have := d.toNat_lt
          omega
      rw [h1]
      apply UInt8.toNat_inj.1
      rw [UInt8.toNat_ofNat']
      have := c.toNat_lt
      omega
  exact key l 0
theorem pVal_enc (x : V) (r : List UInt8) (hw : x.wf) (hk : okV x = true) : pVal (encV x ++ r) = .ok (x, r) := by
  obtain ⟨k, n, s⟩ := x
  rcases (okV_iff _).1 hk with ⟨h1, h2⟩ | ⟨h1, h2⟩
  · dsimp only at h1 h2
    subst h1
    have e : encV ⟨1, n, s⟩ ++ r = 1 :: (be (up n) 8 ++ r) := rfl
    rw [e, pVal_int _ (by rw [List.length_append, be_len]; omega)]
    have e8 : (be (up n) 8 ++ r).take 8 = be (up n) 8 := by
      have := List.take_left (l₁ := be (up n) 8) (l₂ := r)
      rwa [be_len] at this
    have d8 : (be (up n) 8 ++ r).drop 8 = r := by
      have := List.drop_left (l₁ := be (up n) 8) (l₂ := r)
      rwa [be_len] at this
    rw [e8, d8, val_be]
    have hn0 := hw.n0
    have hn1 := hw.n1
    dsimp only at hn0 hn1
    have e3 : ((up n % 2 ^ (8 * 8) : Nat) : Int) - 9223372036854775808 = n := by unfold up; omega
    have e4 : mkB [] = s := by rw [← h2, mkB_self]
    rw [e3, e4]
  · dsimp only at h1 h2
    subst h1 h2
    have e : encV ⟨2, 0, s⟩ ++ r = 2 :: (encT s.data.toList ++ r) := rfl
    rw [e, pVal_text _ _ _ (pText_enc s.data.toList r), mkB_self]
theorem val_lt8 (l : List UInt8) (h : l.length ≤ 8) : (val l : Int) < 18446744073709551616 := by
  have h1 := val_lt l
  have h2 : 256 ^ l.length ≤ 256 ^ 8 := Nat.pow_le_pow_right (by omega) h
  have h3 : (256 : Nat) ^ 8 = 18446744073709551616 := by decide
  omega
theorem pVal_back (l : List UInt8) (x : V) (q : List UInt8) (h : pVal l = .ok (x, q)) (hl : l.length ≤ maxLen) : encV x ++ q = l ∧ okV x = true ∧ x.wf ∧ q.length + 3 ≤ l.length := by
  cases l with
  | nil => cases h
  | cons c r =>
    by_cases h1 : c = 1
    · subst h1
      by_cases h8 : r.length < 8
      · rw [pVal_short r h8] at h; cases h
      · rw [pVal_int r h8] at h
        cases h
        have ht : (r.take 8).length = 8 := by rw [List.length_take]; omega
        have hv := val_lt8 (r.take 8) (by omega)
        refine ⟨?_, ?_, ⟨by dsimp only; omega, by dsimp only; omega, by show (mkB []).size ≤ _; simp [mkB_size]⟩, by simp; omega⟩
        · show (1 :: be (up ((val (r.take 8) : Int) - 9223372036854775808)) 8) ++ r.drop 8 = 1 :: r
          have e : up ((val (r.take 8) : Int) - 9223372036854775808) = val (r.take 8) := by unfold up; omega
          have e2 := be_back (r.take 8)
          rw [ht] at e2
          rw [e, e2]
          simp
        · exact (okV_iff _).2 (.inl ⟨rfl, rfl⟩)
    · by_cases h2 : c = 2
      · subst h2
        cases hp : pText r with
        | error e => rw [pVal_texte r e hp] at h; cases h
        | ok p =>
          obtain ⟨t, q'⟩ := p
          rw [pVal_text r t q' hp] at h
          cases h
          have hb := pText_back r t q hp
          have hlen := congrArg List.length hb
          simp only [encT, List.length_append, List.length_cons, List.length_nil] at hlen
          have hes : t.length ≤ (esc t).length := by
            clear hlen hb hp hl
            induction t with
            | nil => simp
            | cons c t ih => unfold esc; split <;> simp <;> omega
          refine ⟨?_, (okV_iff _).2 (.inr ⟨rfl, rfl⟩), ⟨by dsimp only; omega, by dsimp only; omega, ?_⟩, ?_⟩
          · show (2 :: encT (mkB t).data.toList) ++ q = 2 :: r
            rw [mkB_list, ← hb]
            rfl
          · show (mkB t).size ≤ _
            rw [mkB_size]
            simp only [List.length_cons] at hl
            omega
          · simp only [List.length_cons]
            omega
      · rw [pVal_bad c r h1 h2] at h; cases h
theorem pVal_lt {l : List UInt8} {x : V} {q : List UInt8} (h : pVal l = .ok (x, q)) : q.length < l.length := by
  cases l with
  | nil => cases h
  | cons c r =>
    by_cases h1 : c = 1
    · subst h1
      by_cases h8 : r.length < 8
      · rw [pVal_short r h8] at h; cases h
      · rw [pVal_int r h8] at h
        cases h
        simp; omega
    · by_cases h2 : c = 2
      · subst h2
        cases hp : pText r with
        | error e => rw [pVal_texte r e hp] at h; cases h
        | ok p =>
          obtain ⟨t, q'⟩ := p
          rw [pVal_text r t q' hp] at h
          cases h
          have hb := pText_back r t q hp
          rw [← hb]
          simp
          omega
      · rw [pVal_bad c r h1 h2] at h; cases h
theorem pVal_err (l : List UInt8) (e : Int) (h : pVal l = .error e) : e = 2 ∨ e = 5 := by
  cases l with
  | nil => cases h; exact .inl rfl
  | cons c r =>
    by_cases h1 : c = 1
    · subst h1
      by_cases h8 : r.length < 8
      · rw [pVal_short r h8] at h; cases h; exact .inl rfl
      · rw [pVal_int r h8] at h; cases h
    · by_cases h2 : c = 2
      · subst h2
        cases hp : pText r with
        | error e' => rw [pVal_texte r e' hp] at h; cases h; exact pText_err r _ hp
        | ok p => obtain ⟨t, q'⟩ := p; rw [pVal_text r t q' hp] at h; cases h
      · rw [pVal_bad c r h1 h2] at h; cases h; exact .inr rfl

/-- What is read with values ahead of it. -/
def preL (acc : List V) : Except Int (List V) → Except Int (List V)
  | .ok l => .ok (acc ++ l)
  | .error e => .error e
theorem preL_nil (x : Except Int (List V)) : preL [] x = x := by cases x <;> rfl
theorem preL_preL (a b : List V) (x : Except Int (List V)) : preL a (preL b x) = preL (a ++ b) x := by
  cases x with
  | error e => rfl
  | ok l => simp [preL]
/-- The tuple that bytes are, or the first error. -/
def pRead (l : List UInt8) : Except Int (List V) :=
  match l with
  | [] => .ok []
  | c :: r => match h : pVal (c :: r) with
    | .error e => .error e
    | .ok (x, q) => preL [x] (pRead q)
  termination_by l.length
  decreasing_by exact pVal_lt h
theorem pRead_nil : pRead [] = .ok [] := by rw [pRead]
theorem pRead_err (l : List UInt8) (e : Int) (hl : l ≠ []) (h : pVal l = .error e) : pRead l = .error e := by
  cases l with
  | nil => exact absurd rfl hl
  | cons c r =>
    rw [pRead]
    split
    · next h' => rw [h] at h'; cases h'; rfl
    · next h' => rw [h] at h'; cases h'
theorem pRead_ok (l : List UInt8) (x : V) (q : List UInt8) (h : pVal l = .ok (x, q)) : pRead l = preL [x] (pRead q) := by
  cases l with
  | nil => cases h
  | cons c r =>
    rw [pRead]
    split
    · next h' => rw [h] at h'; cases h'
    · next h' => rw [h] at h'; cases h'; rfl
theorem encV_ne (x : V) : encV x ≠ [] := by unfold encV; split <;> simp
theorem pRead_enc (l : List V) (hw : ∀ x ∈ l, x.wf) (hk : l.all okV = true) : pRead (encL l) = .ok l := by
  induction l with
  | nil => exact pRead_nil
  | cons x l ih =>
    simp only [List.all_cons, Bool.and_eq_true] at hk
    have e : encL (x :: l) = encV x ++ encL l := by simp [encL]
    rw [e, pRead_ok _ x (encL l) (pVal_enc x _ (hw x (by simp)) hk.1), ih (fun y hy => hw y (by simp [hy])) hk.2]
    rfl
theorem pRead_back (s : List UInt8) (hs : s.length ≤ maxLen) : ∀ l, pRead s = .ok l → encL l = s ∧ l.all okV = true ∧ (∀ x ∈ l, x.wf) ∧ l.length * 3 ≤ s.length := by
  generalize hn : s.length = k
  induction k using Nat.strongRecOn generalizing s with
  | _ k ih =>
    intro l h
    cases s with
    | nil => rw [pRead_nil] at h; cases h; simp [encL]
    | cons c r =>
      cases hp : pVal (c :: r) with
      | error e => rw [pRead_err _ e (by simp) hp] at h; cases h
      | ok p =>
        obtain ⟨x, q⟩ := p
        rw [pRead_ok _ x q hp] at h
        obtain ⟨h1, h2, h3, h4⟩ := pVal_back _ x q hp hs
        cases hq : pRead q with
        | error e => rw [hq] at h; cases h
        | ok l' =>
          rw [hq] at h
          cases h
          obtain ⟨g1, g2, g3, g4⟩ := ih q.length (by omega) q (by omega) rfl l' hq
          refine ⟨?_, by simp [h2, g2], ?_, ?_⟩
          · show encL (x :: l') = _
            rw [← h1, ← g1]
            simp [encL]
          · intro y hy
            simp only [List.cons_append, List.nil_append, List.mem_cons] at hy
            rcases hy with rfl | hy
            · exact h3
            · exact g3 y hy
          · simp only [List.cons_append, List.nil_append, List.length_cons] at *
            omega
theorem pRead_errs (s : List UInt8) : ∀ e, pRead s = .error e → e = 2 ∨ e = 5 := by
  generalize hn : s.length = k
  induction k using Nat.strongRecOn generalizing s with
  | _ k ih =>
    intro e h
    cases s with
    | nil => rw [pRead_nil] at h; cases h
    | cons c r =>
      cases hp : pVal (c :: r) with
      | error e' => rw [pRead_err _ e' (by simp) hp] at h; cases h; exact pVal_err _ _ hp
      | ok p =>
        obtain ⟨x, q⟩ := p
        rw [pRead_ok _ x q hp] at h
        cases hq : pRead q with
        | error e' => rw [hq] at h; cases h; exact ih q.length (by have := pVal_lt hp; omega) q rfl _ hq
        | ok l' => rw [hq] at h; cases h

end Go.Proofs.Ytamgnpmkmlhadaa
