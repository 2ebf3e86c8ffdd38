/- Instructions (api.Inst) as bytes, in plain words (no program): what is written is read again, what is read is just what is written, and a beginning ends within an instruction. No conditions but those that each theorem states. -/
import Derived.Test.YtamgnpmkmlhadaaKParse
namespace Go.Proofs.Ytamgnpmkmlhadaa
open Go Go.RowKit
set_option linter.unusedVariables false

/-- An instruction. -/
structure In where
  op : Int
  a : Int
  b : Int
  c : Int
  v : V
def zV : V := ⟨0, 0, mkB []⟩
/-- How many operands each Op has. -/
def tabO : List Int := [0, 1, 2, 3, 3, 3, 3, 3, 3, 1, 2, 2, 2, 1, 1, 1, 3, 0, 1, 1]
def nOps (op : Int) : Nat := (tabO.getD op.toNat 0).toNat
def opOk (op : Int) : Bool := decide (1 ≤ op ∧ op ≤ 19)
def byteOk (o : Int) : Bool := decide (0 ≤ o ∧ o ≤ 255)
def zeroB (v : V) : Bool := v.k == 0 && v.n == 0 && v.s.toList.isEmpty
def okC (v : V) : Bool := okV v && decide (v.s.size ≤ 10)
/-- May operand number k of n be o? -/
def fitO (n k : Nat) (o : Int) : Bool := byteOk o && (decide (k < n) || o == 0)
def okI (x : In) : Bool := opOk x.op && fitO (nOps x.op) 0 x.a && fitO (nOps x.op) 1 x.b && fitO (nOps x.op) 2 x.c && (if x.op = 1 then okC x.v else zeroB x.v)
def n2u (n : Int) : Nat := (n % 18446744073709551616).toNat
def encC (v : V) : List UInt8 := if v.k = 1 then 1 :: be (n2u v.n) 8 else 2 :: strB v.s.data.toList
def byt (o : Int) : UInt8 := UInt8.ofNat o.toNat
def opsB (n : Nat) (x : In) : List UInt8 := ([x.a, x.b, x.c].take n).map byt
def encI (x : In) : List UInt8 := byt x.op :: (opsB (nOps x.op) x ++ (if x.op = 1 then encC x.v else []))
def encP (l : List In) : List UInt8 := l.flatMap encI
theorem encP_cons (x : In) (l : List In) : encP (x :: l) = encI x ++ encP l := by simp [encP]
theorem encP_append (a b : List In) : encP (a ++ b) = encP a ++ encP b := by simp [encP]
theorem encP_snoc (a : List In) (x : In) : encP (a ++ [x]) = encP a ++ encI x := by simp [encP]
theorem encI_ne (x : In) : encI x ≠ [] := by simp [encI]
theorem zeroB_iff (v : V) : zeroB v = true ↔ v = zV := by
  obtain ⟨k, n, s⟩ := v
  unfold zeroB zV
  rw [ByteArray.toList_eq]
  simp only [Bool.and_eq_true, beq_iff_eq, List.isEmpty_iff, V.mk.injEq]
  constructor
  · rintro ⟨⟨rfl, rfl⟩, h⟩; exact ⟨rfl, rfl, by rw [← h, mkB_self]⟩
  · rintro ⟨rfl, rfl, rfl⟩; exact ⟨⟨rfl, rfl⟩, rfl⟩
theorem nOps_le (op : Int) : nOps op ≤ 3 := by
  unfold nOps
  by_cases h : op.toNat < 20
  · have : ∀ i : Nat, i < 20 → (tabO.getD i 0).toNat ≤ 3 := by decide
    exact this _ h
  · have e : tabO.getD op.toNat 0 = 0 := by rw [List.getD_eq_getElem?_getD, List.getElem?_eq_none (by simp [tabO]; omega)]; rfl
    rw [e]; simp
theorem byt_toNat (o : Int) (h : byteOk o = true) : ((byt o).toNat : Int) = o := by
  have h := of_decide_eq_true h
  unfold byt
  rw [UInt8.toNat_ofNat']
  omega
theorem byt_of (c : UInt8) : byt (c.toNat : Int) = c := by simp [byt]
theorem byteOk_byte (c : UInt8) : byteOk (c.toNat : Int) = true := by
  have := c.toNat_lt
  exact decide_eq_true ⟨by omega, by omega⟩

def pS : List UInt8 → Except Int (V × List UInt8)
  | [] => .error 2
  | m :: q => if 10 < m.toNat then .error 3 else if q.length < m.toNat then .error 2 else .ok (⟨2, 0, mkB (q.take m.toNat)⟩, q.drop m.toNat)
def pC : List UInt8 → Except Int (V × List UInt8)
  | [] => .error 2
  | c :: r => if c = 1 then (if r.length < 8 then .error 2 else .ok (⟨1, wrap64 (val (r.take 8) : Int), mkB []⟩, r.drop 8)) else if c = 2 then pS r else .error 4
/-- Operand number k of n, of bytes. -/
def atO (r : List UInt8) (n k : Nat) : Int := if k < n then ((r.getD k 0).toNat : Int) else 0
def pI : List UInt8 → Except Int (In × List UInt8)
  | [] => .error 2
  | c :: r =>
    if opOk (c.toNat : Int) then
      if r.length < nOps (c.toNat : Int) then .error 2
      else if c = 1 then (match pC (r.drop 1) with | .error e => .error e | .ok (v, q) => .ok (⟨1, atO r 1 0, 0, 0, v⟩, q))
      else .ok (⟨(c.toNat : Int), atO r (nOps (c.toNat : Int)) 0, atO r (nOps (c.toNat : Int)) 1, atO r (nOps (c.toNat : Int)) 2, zV⟩, r.drop (nOps (c.toNat : Int)))
    else .error 4
/-- What is read with instructions ahead of it. -/
def preI (acc : List In) : Except Int (List In) → Except Int (List In)
  | .ok l => .ok (acc ++ l)
  | .error e => .error e
theorem preI_nil (x : Except Int (List In)) : preI [] x = x := by cases x <;> rfl
theorem preI_preI (a b : List In) (x : Except Int (List In)) : preI a (preI b x) = preI (a ++ b) x := by
  cases x with
  | error e => rfl
  | ok l => simp [preI]
/-- The instructions that bytes are, k at most, or the first error. -/
def pR : Nat → List UInt8 → Except Int (List In)
  | _, [] => .ok []
  | 0, _ :: _ => .error 3
  | k + 1, c :: r => match pI (c :: r) with
    | .error e => .error e
    | .ok (x, q) => preI [x] (pR k q)
theorem pR_nil (k : Nat) : pR k [] = .ok [] := by cases k <;> rfl
theorem pR_zero (c : UInt8) (r : List UInt8) : pR 0 (c :: r) = .error 3 := rfl
theorem pR_err (k : Nat) (c : UInt8) (r : List UInt8) (e : Int) (h : pI (c :: r) = .error e) : pR (k + 1) (c :: r) = .error e := by
  unfold pR; rw [h]
theorem pR_ok (k : Nat) (c : UInt8) (r : List UInt8) (x : In) (q : List UInt8) (h : pI (c :: r) = .ok (x, q)) : pR (k + 1) (c :: r) = preI [x] (pR k q) := by
  conv => lhs; unfold pR
  rw [h]

theorem pS_cons (m : UInt8) (q : List UInt8) : pS (m :: q) = if 10 < m.toNat then .error 3 else if q.length < m.toNat then .error 2 else .ok (⟨2, 0, mkB (q.take m.toNat)⟩, q.drop m.toNat) := rfl
theorem pC_cons (c : UInt8) (r : List UInt8) : pC (c :: r) = if c = 1 then (if r.length < 8 then .error 2 else .ok (⟨1, wrap64 (val (r.take 8) : Int), mkB []⟩, r.drop 8)) else if c = 2 then pS r else .error 4 := rfl
theorem pI_cons (c : UInt8) (r : List UInt8) : pI (c :: r) =
    if opOk (c.toNat : Int) then
      if r.length < nOps (c.toNat : Int) then .error 2
      else if c = 1 then (match pC (r.drop 1) with | .error e => .error e | .ok (v, q) => .ok (⟨1, atO r 1 0, 0, 0, v⟩, q))
      else .ok (⟨(c.toNat : Int), atO r (nOps (c.toNat : Int)) 0, atO r (nOps (c.toNat : Int)) 1, atO r (nOps (c.toNat : Int)) 2, zV⟩, r.drop (nOps (c.toNat : Int)))
    else .error 4 := rfl
theorem take_be (n : Nat) (r : List UInt8) : (be n 8 ++ r).take 8 = be n 8 ∧ (be n 8 ++ r).drop 8 = r := by
  have h1 := List.take_left (l₁ := be n 8) (l₂ := r)
  have h2 := List.drop_left (l₁ := be n 8) (l₂ := r)
  rw [be_len] at h1 h2
  exact ⟨h1, h2⟩
theorem n2u_back (n : Int) (h0 : -9223372036854775808 ≤ n) (h1 : n < 9223372036854775808) : wrap64 ((n2u n % 2 ^ (8 * 8) : Nat) : Int) = n := by
  unfold n2u wrap64; omega
theorem pC_enc (v : V) (r : List UInt8) (hw : v.wf) (hk : okC v = true) : pC (encC v ++ r) = .ok (v, r) := by
  obtain ⟨k, n, s⟩ := v
  unfold okC at hk
  rw [Bool.and_eq_true] at hk
  have hs := of_decide_eq_true hk.2
  dsimp only at hs
  rcases (okV_iff _).1 hk.1 with ⟨h1, h2⟩ | ⟨h1, h2⟩
  · dsimp only at h1 h2
    subst h1
    have e : encC ⟨1, n, s⟩ ++ r = 1 :: (be (n2u n) 8 ++ r) := rfl
    rw [e]
    rw [pC_cons, if_pos rfl, if_neg (by rw [List.length_append, be_len]; omega), (take_be _ r).1, (take_be _ r).2, val_be, n2u_back n hw.n0 hw.n1, ← h2, mkB_self]
  · dsimp only at h1 h2
    subst h1 h2
    have e1 : s.data.toList.length = s.size := by rw [Array.length_toList]; rfl
    have e : encC ⟨2, 0, s⟩ ++ r = 2 :: (UInt8.ofNat s.size :: (s.data.toList ++ r)) := by
      show (2 :: strB s.data.toList) ++ r = _
      unfold strB
      rw [e1, show min s.size 255 = s.size by omega, List.take_of_length_le (by omega)]
      rfl
    have e2 : (UInt8.ofNat s.size).toNat = s.size := by rw [UInt8.toNat_ofNat']; omega
    rw [e]
    rw [pC_cons, if_neg (by decide), if_pos rfl]
    rw [pS_cons, e2, if_neg (by omega), if_neg (by rw [List.length_append, e1]; omega), ← e1, List.take_left, List.drop_left, mkB_self]
theorem wrap_u64 (n : Nat) (h : (n : Int) < 18446744073709551616) : n2u (wrap64 (n : Int)) = n := by unfold n2u wrap64; omega
theorem pC_back (l : List UInt8) (v : V) (q : List UInt8) (h : pC l = .ok (v, q)) (hl : l.length ≤ maxLen) : encC v ++ q = l ∧ okC v = true ∧ v.wf ∧ q.length < l.length := by
  cases l with
  | nil => cases h
  | cons c r =>
    rw [pC_cons] at h
    split at h
    · next hc =>
      subst hc
      split at h
      · cases h
      · next h8 =>
        cases h
        have ht : (r.take 8).length = 8 := by rw [List.length_take]; omega
        have hv := val_lt8 (r.take 8) (by omega)
        refine ⟨?_, ?_, ⟨?_, ?_, ?_⟩, by simp; omega⟩
        · show (1 :: be (n2u (wrap64 (val (r.take 8) : Int))) 8) ++ r.drop 8 = 1 :: r
          have e2 := be_back (r.take 8)
          rw [ht] at e2
          rw [wrap_u64 _ hv, e2]
          simp
        · unfold okC
          rw [Bool.and_eq_true]
          exact ⟨(okV_iff _).2 (.inl ⟨rfl, rfl⟩), decide_eq_true (by show (mkB []).size ≤ 10; simp [mkB_size])⟩
        · show -9223372036854775808 ≤ wrap64 _; unfold wrap64; omega
        · show wrap64 _ < 9223372036854775808; unfold wrap64; omega
        · show (mkB []).size ≤ _; simp [mkB_size]
    · split at h
      · next hc =>
        subst hc
        cases r with
        | nil => cases h
        | cons m q' =>
          rw [pS_cons] at h
          split at h
          · cases h
          · next hm =>
            split at h
            · cases h
            · next hq =>
              cases h
              have ht : (q'.take m.toNat).length = m.toNat := by rw [List.length_take]; omega
              refine ⟨?_, ?_, ⟨?_, ?_, ?_⟩, ?_⟩
              · show (2 :: strB (mkB (q'.take m.toNat)).data.toList) ++ q'.drop m.toNat = 2 :: m :: q'
                rw [mkB_list]
                unfold strB
                rw [ht, show min m.toNat 255 = m.toNat by omega, List.take_of_length_le (by omega)]
                simp
              · unfold okC
                rw [Bool.and_eq_true]
                refine ⟨(okV_iff _).2 (.inr ⟨rfl, rfl⟩), decide_eq_true ?_⟩
                show (mkB (q'.take m.toNat)).size ≤ 10
                rw [mkB_size, ht]; omega
              · dsimp only; omega
              · dsimp only; omega
              · show (mkB (q'.take m.toNat)).size ≤ _
                rw [mkB_size, ht]; unfold maxLen; omega
              · simp; omega
      · cases h
theorem pC_err (l : List UInt8) (e : Int) (h : pC l = .error e) : e = 2 ∨ ((e = 3 ∨ e = 4) ∧ ∀ r, pC (l ++ r) = .error e) := by
  cases l with
  | nil => cases h; exact .inl rfl
  | cons c r =>
    rw [pC_cons] at h
    split at h
    · split at h
      · cases h; exact .inl rfl
      · cases h
    · next h1 =>
      split at h
      · next hc =>
        subst hc
        cases r with
        | nil => cases h; exact .inl rfl
        | cons m q' =>
          rw [pS_cons] at h
          split at h
          · next hm =>
            cases h
            refine .inr ⟨.inl rfl, fun r => ?_⟩
            show pC (2 :: m :: (q' ++ r)) = _
            rw [pC_cons, if_neg (by decide), if_pos rfl]
            rw [pS_cons, if_pos hm]
          · split at h
            · cases h; exact .inl rfl
            · cases h
      · next h2 =>
        cases h
        refine .inr ⟨.inr rfl, fun r' => ?_⟩
        show pC (c :: (r ++ r')) = _
        rw [pC_cons, if_neg h1, if_neg h2]

/-- What every instruction that lies in memory keeps to. -/
def ir (o : Int) : Prop := -9223372036854775808 ≤ o ∧ o < 9223372036854775808
def In.wf (x : In) : Prop := x.v.wf ∧ ir x.op ∧ ir x.a ∧ ir x.b ∧ ir x.c
theorem ir_byte (c : UInt8) : ir (c.toNat : Int) := by have := c.toNat_lt; unfold ir; omega
theorem ir_zero : ir 0 := by unfold ir; omega
theorem ir_one : ir 1 := by unfold ir; omega
theorem ir_at (r : List UInt8) (n k : Nat) : ir (atO r n k) := by
  unfold atO
  split
  · exact ir_byte _
  · exact ir_zero
theorem opsB_len (n : Nat) (x : In) (h : n ≤ 3) : (opsB n x).length = n := by
  unfold opsB
  rw [List.length_map, List.length_take]
  simp
  omega
theorem fit_lt {n k : Nat} {o : Int} (h : fitO n k o = true) : byteOk o = true ∧ (k < n ∨ o = 0) := by
  unfold fitO at h
  simp only [Bool.and_eq_true, Bool.or_eq_true, decide_eq_true_eq, beq_iff_eq] at h
  exact h
theorem at_opsB (x : In) (n : Nat) (hn : n ≤ 3) (r : List UInt8) (ha : fitO n 0 x.a = true) (hb : fitO n 1 x.b = true) (hc : fitO n 2 x.c = true) :
    atO (opsB n x ++ r) n 0 = x.a ∧ atO (opsB n x ++ r) n 1 = x.b ∧ atO (opsB n x ++ r) n 2 = x.c := by
  obtain ⟨a1, a2⟩ := fit_lt ha
  obtain ⟨b1, b2⟩ := fit_lt hb
  obtain ⟨c1, c2⟩ := fit_lt hc
  have ea := byt_toNat _ a1
  have eb := byt_toNat _ b1
  have ec := byt_toNat _ c1
  rcases (by omega : n = 0 ∨ n = 1 ∨ n = 2 ∨ n = 3) with rfl | rfl | rfl | rfl
  · refine ⟨?_, ?_, ?_⟩ <;> simp [atO] <;> omega
  · refine ⟨?_, ?_, ?_⟩ <;> simp [atO, opsB, ea] <;> omega
  · refine ⟨?_, ?_, ?_⟩ <;> simp [atO, opsB, ea, eb] <;> omega
  · refine ⟨?_, ?_, ?_⟩ <;> simp [atO, opsB, ea, eb, ec]
theorem okI_parts {x : In} (h : okI x = true) : opOk x.op = true ∧ fitO (nOps x.op) 0 x.a = true ∧ fitO (nOps x.op) 1 x.b = true ∧ fitO (nOps x.op) 2 x.c = true ∧ (if x.op = 1 then okC x.v else zeroB x.v) = true := by
  unfold okI at h
  simp only [Bool.and_eq_true] at h
  exact ⟨h.1.1.1.1, h.1.1.1.2, h.1.1.2, h.1.2, h.2⟩
theorem opOk_byte {op : Int} (h : opOk op = true) : byteOk op = true := by
  have h := of_decide_eq_true h
  exact decide_eq_true ⟨by omega, by omega⟩
theorem nOps1 : nOps 1 = 1 := by decide
theorem pI_enc (x : In) (r : List UInt8) (hw : x.wf) (hk : okI x = true) : pI (encI x ++ r) = .ok (x, r) := by
  obtain ⟨h1, h2, h3, h4, h5⟩ := okI_parts hk
  have hb := byt_toNat _ (opOk_byte h1)
  have hn := nOps_le x.op
  have e : encI x ++ r = byt x.op :: (opsB (nOps x.op) x ++ ((if x.op = 1 then encC x.v else []) ++ r)) := by simp [encI]
  rw [e]
  rw [pI_cons, hb, if_pos h1, if_neg (by rw [List.length_append, opsB_len _ _ hn]; omega)]
  by_cases ho : x.op = 1
  · have hA := at_opsB x _ hn ((if x.op = 1 then encC x.v else []) ++ r) h2 h3 h4
    rw [if_pos ho] at h5 hA ⊢
    have eb : byt x.op = 1 := by rw [ho]; rfl
    rw [if_pos eb]
    have hl := opsB_len 1 x (by omega)
    rw [ho, nOps1] at hA ⊢
    have ed : (opsB 1 x ++ (encC x.v ++ r)).drop 1 = encC x.v ++ r := by
      have := List.drop_left (l₁ := opsB 1 x) (l₂ := encC x.v ++ r)
      rwa [hl] at this
    rw [ed, pC_enc _ _ hw.1 h5]
    have z1 : x.b = 0 := by have := (fit_lt h3).2; rw [ho, nOps1] at this; omega
    have z2 : x.c = 0 := by have := (fit_lt h4).2; rw [ho, nOps1] at this; omega
    obtain ⟨op, a, b, c, v⟩ := x
    dsimp only at *
    subst ho z1 z2
    simp only [hA.1]
  · have hA := at_opsB x _ hn ((if x.op = 1 then encC x.v else []) ++ r) h2 h3 h4
    rw [if_neg ho] at h5 hA ⊢
    have eb : byt x.op ≠ 1 := by
      intro h
      rw [h] at hb
      exact ho (by rw [← hb]; rfl)
    rw [if_neg eb]
    have hl := opsB_len _ x hn
    have ed : (opsB (nOps x.op) x ++ ([] ++ r)).drop (nOps x.op) = r := by
      have := List.drop_left (l₁ := opsB (nOps x.op) x) (l₂ := [] ++ r)
      rwa [hl] at this
    rw [ed, hA.1, hA.2.1, hA.2.2, ← (zeroB_iff _).1 h5]
theorem fit_at (r : List UInt8) (n k : Nat) : fitO n k (atO r n k) = true := by
  unfold fitO atO
  by_cases h : k < n
  · simp only [h, if_true]
    rw [byteOk_byte]; simp
  · simp only [h, if_false]
    simp [byteOk]
theorem opsB_at (op : Int) (v : V) (r : List UInt8) (n : Nat) (hn : n ≤ 3) (h : n ≤ r.length) : opsB n ⟨op, atO r n 0, atO r n 1, atO r n 2, v⟩ = r.take n := by
  unfold opsB atO
  rcases (by omega : n = 0 ∨ n = 1 ∨ n = 2 ∨ n = 3) with rfl | rfl | rfl | rfl
  · simp
  · match r, h with
    | a :: r, _ => simp [byt_of]
  · match r, h with
    | a :: b :: r, _ => simp [byt_of]
  · match r, h with
    | a :: b :: c :: r, _ => simp [byt_of]
theorem zV_wf : zV.wf := ⟨by decide, by decide, by show (mkB []).size ≤ _; simp [mkB_size]⟩
theorem atO1 (r : List UInt8) : atO r 1 1 = 0 ∧ atO r 1 2 = 0 := ⟨by simp [atO], by simp [atO]⟩
theorem one_of (c : UInt8) (h : (c.toNat : Int) = 1) : c = 1 := UInt8.toNat_inj.1 (by simp; omega)
theorem pI_back (l : List UInt8) (x : In) (q : List UInt8) (h : pI l = .ok (x, q)) (hl : l.length ≤ maxLen) : encI x ++ q = l ∧ okI x = true ∧ x.wf ∧ q.length < l.length := by
  cases l with
  | nil => cases h
  | cons c r =>
    rw [pI_cons] at h
    split at h
    · next ho =>
      split at h
      · cases h
      · next hr =>
        split at h
        · next hc =>
          subst hc
          rw [show (((1 : UInt8).toNat : Nat) : Int) = 1 from rfl, nOps1] at hr
          have hd : (r.drop 1).length ≤ maxLen := by simp only [List.length_cons] at hl; simp; omega
          cases hp : pC (r.drop 1) with
          | error e => rw [hp] at h; cases h
          | ok p =>
            obtain ⟨v, q'⟩ := p
            rw [hp] at h
            cases h
            obtain ⟨g1, g2, g3, g4⟩ := pC_back _ _ _ hp hd
            have e1 := opsB_at 1 v r 1 (by omega) (by omega)
            rw [(atO1 r).1, (atO1 r).2] at e1
            refine ⟨?_, ?_, ⟨g3, ir_one, ir_at r 1 0, ir_zero, ir_zero⟩, ?_⟩
            · show (1 :: (opsB 1 ⟨1, atO r 1 0, 0, 0, v⟩ ++ encC v)) ++ q = 1 :: r
              rw [e1]
              simp only [List.cons_append, List.append_assoc]
              rw [g1, List.take_append_drop]
            · have f0 := fit_at r 1 0
              unfold okI
              dsimp only
              rw [nOps1, f0, if_pos rfl, g2]
              decide
            · simp only [List.length_drop, List.length_cons] at *
              omega
        · next hc =>
          cases h
          have hn := nOps_le (c.toNat : Int)
          have h1 : (c.toNat : Int) ≠ 1 := fun hh => hc (one_of c hh)
          refine ⟨?_, ?_, ⟨zV_wf, ir_byte c, ir_at r _ 0, ir_at r _ 1, ir_at r _ 2⟩, by simp; omega⟩
          · show (byt (c.toNat : Int) :: (opsB (nOps (c.toNat : Int)) _ ++ (if (c.toNat : Int) = 1 then encC zV else []))) ++ _ = _
            rw [if_neg h1, byt_of, opsB_at _ _ r _ hn (by omega)]
            simp
          · unfold okI
            dsimp only
            rw [ho, fit_at, fit_at, fit_at, if_neg h1, (zeroB_iff _).2 rfl]
            rfl
    · cases h
theorem pI_err (l : List UInt8) (e : Int) (h : pI l = .error e) : e = 2 ∨ ((e = 3 ∨ e = 4) ∧ ∀ r, pI (l ++ r) = .error e) := by
  cases l with
  | nil => cases h; exact .inl rfl
  | cons c r =>
    rw [pI_cons] at h
    split at h
    · next ho =>
      split at h
      · cases h; exact .inl rfl
      · next hr =>
        split at h
        · next hc =>
          cases hp : pC (r.drop 1) with
          | ok p => rw [hp] at h; cases h
          | error e' =>
            rw [hp] at h
            cases h
            rcases pC_err _ _ hp with h2 | ⟨h3, h4⟩
            · exact .inl h2
            · refine .inr ⟨h3, fun r' => ?_⟩
              have hr1 : 1 ≤ r.length := by subst hc; rw [show (((1 : UInt8).toNat : Nat) : Int) = 1 from rfl, nOps1] at hr; omega
              show pI (c :: (r ++ r')) = _
              rw [pI_cons, if_pos ho, if_neg (by rw [List.length_append]; omega), if_pos hc, List.drop_append_of_le_length hr1, h4]
        · cases h
    · next ho =>
      cases h
      refine .inr ⟨.inr rfl, fun r' => ?_⟩
      show pI (c :: (r ++ r')) = _
      rw [pI_cons, if_neg ho]

/-- A true beginning of an instruction's bytes ends within it. -/
theorem pI_cut (x : In) (a b : List UInt8) (hw : x.wf) (hk : okI x = true) (he : a ++ b = encI x) (hb : b ≠ []) (hl : a.length ≤ maxLen) : pI a = .error 2 := by
  cases hp : pI a with
  | error e =>
    rcases pI_err _ _ hp with h | ⟨_, h⟩
    · rw [h]
    · have h1 := h b
      have h2 := pI_enc x [] hw hk
      rw [List.append_nil] at h2
      rw [he, h2] at h1
      cases h1
  | ok p =>
    obtain ⟨y, q⟩ := p
    obtain ⟨g1, g2, g3, g4⟩ := pI_back _ _ _ hp hl
    have h1 := pI_enc y (q ++ b) g3 g2
    have h2 := pI_enc x [] hw hk
    rw [← List.append_assoc, g1, he] at h1
    rw [List.append_nil] at h2
    rw [h2] at h1
    have h3 : ([] : List UInt8) = q ++ b := by injection h1 with h1; injection h1
    exact absurd (List.append_eq_nil_iff.1 h3.symm).2 hb

theorem pR_step (k : Nat) (x : In) (r : List UInt8) (hw : x.wf) (hk : okI x = true) : pR (k + 1) (encI x ++ r) = preI [x] (pR k r) := by
  have h := pI_enc x r hw hk
  cases he : encI x ++ r with
  | nil => exact absurd (List.append_eq_nil_iff.1 he).1 (encI_ne x)
  | cons c q => rw [he] at h; exact pR_ok k c q x r h
theorem pR_append (l : List In) : ∀ (k : Nat) (r : List UInt8), (∀ x ∈ l, x.wf) → l.all okI = true → pR (k + l.length) (encP l ++ r) = preI l (pR k r) := by
  induction l with
  | nil => intro k r _ _; simp [encP, preI_nil]
  | cons x l ih =>
    intro k r hw hk
    simp only [List.all_cons, Bool.and_eq_true] at hk
    rw [encP_cons, List.append_assoc, List.length_cons, ← Nat.add_assoc, pR_step _ _ _ (hw x (by simp)) hk.1, ih k r (fun y hy => hw y (by simp [hy])) hk.2, preI_preI]
    rfl
theorem pR_enc (l : List In) (k : Nat) (hw : ∀ x ∈ l, x.wf) (hk : l.all okI = true) (hl : l.length ≤ k) : pR k (encP l) = .ok l := by
  have h := pR_append l (k - l.length) [] hw hk
  rw [List.append_nil, show k - l.length + l.length = k by omega, pR_nil] at h
  rw [h]
  simp [preI]
theorem pR_long (l : List In) (k : Nat) (hw : ∀ x ∈ l, x.wf) (hk : l.all okI = true) (hl : k < l.length) : pR k (encP l) = .error 3 := by
  have e : l = l.take k ++ l.drop k := (List.take_append_drop k l).symm
  have hw1 : ∀ x ∈ l.take k, x.wf := fun x hx => hw x (List.mem_of_mem_take hx)
  have hk1 : (l.take k).all okI = true := by
    rw [List.all_eq_true] at hk ⊢
    exact fun x hx => hk x (List.mem_of_mem_take hx)
  have ht : (l.take k).length = k := by rw [List.length_take]; omega
  have h := pR_append (l.take k) 0 (encP (l.drop k)) hw1 hk1
  rw [Nat.zero_add, ht, ← encP_append, ← e] at h
  rw [h]
  have hd : (l.drop k).length = l.length - k := by simp
  cases hc : l.drop k with
  | nil => rw [hc] at hd; simp at hd; omega
  | cons x m =>
    rw [encP_cons]
    cases he : encI x ++ encP m with
    | nil => exact absurd (List.append_eq_nil_iff.1 he).1 (encI_ne x)
    | cons c q => rfl
theorem pR_back : ∀ (k : Nat) (s : List UInt8) (l : List In), s.length ≤ maxLen → pR k s = .ok l → encP l = s ∧ l.all okI = true ∧ (∀ x ∈ l, x.wf) ∧ l.length ≤ k
  | k, [], l, _, h => by rw [pR_nil] at h; cases h; simp [encP]
  | 0, c :: r, l, _, h => by cases h
  | k + 1, c :: r, l, hs, h => by
    cases hp : pI (c :: r) with
    | error e => rw [pR_err k c r e hp] at h; cases h
    | ok p =>
      obtain ⟨x, q⟩ := p
      rw [pR_ok k c r x q hp] at h
      obtain ⟨g1, g2, g3, g4⟩ := pI_back _ _ _ hp hs
      cases hq : pR k q with
      | error e => rw [hq] at h; cases h
      | ok m =>
        rw [hq] at h
        cases h
        obtain ⟨f1, f2, f3, f4⟩ := pR_back k q m (by omega) hq
        refine ⟨?_, ?_, ?_, ?_⟩
        · show encP (x :: m) = _
          rw [encP_cons, f1, g1]
        · show (x :: m).all okI = true
          rw [List.all_cons, g2, f2]; rfl
        · intro y hy
          rcases List.mem_cons.1 hy with rfl | hy
          · exact g3
          · exact f3 y hy
        · show (x :: m).length ≤ _
          rw [List.length_cons]; omega
/-- A beginning of a program's bytes: some of its instructions, or it ends within one. -/
theorem pR_cut (l : List In) : ∀ (k m : Nat), (∀ x ∈ l, x.wf) → l.all okI = true → l.length ≤ m → (encP l).length ≤ maxLen →
    (∃ j, j ≤ l.length ∧ pR m ((encP l).take k) = .ok (l.take j)) ∨ (pR m ((encP l).take k) = .error 2 ∧ k < (encP l).length) := by
  induction l with
  | nil => intro k m _ _ _ _; left; exact ⟨0, Nat.le_refl _, by simp [encP, pR_nil]⟩
  | cons x l ih =>
    intro k m hw hk hm hL
    simp only [List.all_cons, Bool.and_eq_true] at hk
    have hwx := hw x (by simp)
    have hwl : ∀ y ∈ l, y.wf := fun y hy => hw y (by simp [hy])
    rw [encP_cons] at hL ⊢
    rw [List.length_append] at hL ⊢
    obtain ⟨m, rfl⟩ : ∃ m', m = m' + 1 := ⟨m - 1, by simp only [List.length_cons] at hm; omega⟩
    have hm' : l.length ≤ m := by simp only [List.length_cons] at hm; omega
    by_cases h0 : k = 0
    · left; subst h0; exact ⟨0, Nat.zero_le _, by simp [pR_nil]⟩
    · by_cases h1 : k < (encI x).length
      · right
        refine ⟨?_, by omega⟩
        rw [List.take_append_of_le_length (by omega)]
        have hc := pI_cut x ((encI x).take k) ((encI x).drop k) hwx hk.1 (List.take_append_drop _ _) (by
          intro h
          have := congrArg List.length h
          simp at this
          omega) (by rw [List.length_take]; omega)
        cases he : (encI x).take k with
        | nil => have := congrArg List.length he; rw [List.length_take] at this; simp at this; rcases this with h | h; exact absurd h h0; exact absurd h (encI_ne x)
        | cons c q => rw [he] at hc; exact pR_err m c q 2 hc
      · have e : (encI x ++ encP l).take k = encI x ++ (encP l).take (k - (encI x).length) := by
          rw [List.take_append, List.take_of_length_le (by omega)]
        rw [e, pR_step _ _ _ hwx hk.1]
        rcases ih (k - (encI x).length) m hwl hk.2 hm' (by omega) with ⟨j, hj, h⟩ | ⟨h, h2⟩
        · left
          refine ⟨j + 1, by simp only [List.length_cons]; omega, ?_⟩
          rw [h]
          rfl
        · right
          rw [h]
          exact ⟨rfl, by omega⟩
theorem encI_len (x : In) : (encI x).length ≤ 270 := by
  unfold encI
  have h1 := nOps_le x.op
  have h2 := opsB_len (nOps x.op) x h1
  have h3 : (if x.op = 1 then encC x.v else []).length ≤ 257 := by
    split
    · unfold encC
      split
      · simp only [List.length_cons, be_len]; omega
      · have := strB_len x.v.s.data.toList
        simp only [List.length_cons]; omega
    · simp
  simp only [List.length_cons, List.length_append]
  omega
theorem encP_len (l : List In) : (encP l).length ≤ 270 * l.length := by
  induction l with
  | nil => simp [encP]
  | cons x l ih =>
    have := encI_len x
    rw [encP_cons, List.length_append, List.length_cons]
    omega
/-- What Write answers. -/
def wiOk (l : List In) : Bool := decide (l.length ≤ 64) && l.all okI
def wiB (l : List In) : List UInt8 := if wiOk l then encP l else []
def wiE (l : List In) : Int := if 64 < l.length then 3 else if l.all okI then 0 else 4
/-- What Read answers. -/
def riL : Except Int (List In) → List In
  | .ok l => l
  | .error _ => []
def riE : Except Int (List In) → Int
  | .ok _ => 0
  | .error e => e
theorem wiE_ok (l : List In) : wiE l = 0 ↔ wiOk l = true := by
  unfold wiE wiOk
  by_cases h : 64 < l.length
  · simp [h]; intro h2; omega
  · by_cases h2 : l.all okI = true
    · simp [h, h2]; omega
    · simp [h, h2]
theorem pR_errs : ∀ (k : Nat) (s : List UInt8) (e : Int), pR k s = .error e → e = 2 ∨ e = 3 ∨ e = 4
  | k, [], e, h => by rw [pR_nil] at h; cases h
  | 0, c :: r, e, h => by cases h; exact .inr (.inl rfl)
  | k + 1, c :: r, e, h => by
    cases hp : pI (c :: r) with
    | error e' =>
      rw [pR_err k c r e' hp] at h
      cases h
      rcases pI_err _ _ hp with h | ⟨h, _⟩
      · exact .inl h
      · exact .inr h
    | ok p =>
      obtain ⟨x, q⟩ := p
      rw [pR_ok k c r x q hp] at h
      cases hq : pR k q with
      | error e' => rw [hq] at h; cases h; exact pR_errs k q _ hq
      | ok m => rw [hq] at h; cases h

end Go.Proofs.Ytamgnpmkmlhadaa
