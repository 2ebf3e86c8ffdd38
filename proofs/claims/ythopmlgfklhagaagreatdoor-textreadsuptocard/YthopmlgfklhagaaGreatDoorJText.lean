/- Instructions as text, in plain words (no program): values and instructions as words, lines and texts; there and back. No conditions but those that each theorem states. -/
import Derived.Test.YthopmlgfklhagaaGreatDoorJMath
namespace Go.Proofs.YthopmlgfklhagaaGreatDoor
open Go Go.RowKit
set_option linter.unusedVariables false

/-- The names of the Ops, from 1 on. -/
def nmL : List (List UInt8) := [[99, 111, 110, 115, 116], [109, 111, 118, 101], [97, 100, 100], [115, 117, 98], [109, 117, 108], [99, 97, 116], [108, 101, 115, 115], [115, 97, 109, 101], [106, 117, 109, 112], [117, 110, 108, 101, 115, 115], [108, 111, 97, 100], [115, 116, 111, 114, 101], [100, 114, 111, 112], [101, 109, 105, 116], [115, 108, 101, 101, 112], [99, 104, 105, 108, 100], [115, 116, 101, 112], [100, 111, 110, 101], [102, 97, 105, 108]]
def nameB (op : Int) : List UInt8 := if opOk op then nmL.getD (op.toNat - 1) [] else []
/-- The Op of a name, or 0. -/
def opU (w : List UInt8) : Int := if nmL.idxOf w < 19 then (nmL.idxOf w : Int) + 1 else 0
theorem opU_name (op : Int) (h : opOk op = true) : opU (nameB op) = op := by
  have h1 := of_decide_eq_true h
  unfold nameB
  rw [if_pos h]
  have key : ∀ i : Nat, i < 19 → opU (nmL.getD i []) = (i : Int) + 1 := by decide
  rw [key (op.toNat - 1) (by omega)]
  omega
theorem name_opU (w : List UInt8) (h : opOk (opU w) = true) : nameB (opU w) = w := by
  have h' := h
  unfold opU at h ⊢
  split at h
  · next hi =>
    unfold nameB
    rw [if_pos hi, if_pos h, show ((nmL.idxOf w : Int) + 1).toNat - 1 = nmL.idxOf w by omega, List.getD_eq_getElem?_getD, List.getElem?_eq_getElem (by show _ < 19; exact hi)]
    exact List.getElem_idxOf (by show _ < 19; exact hi)
  · exact absurd h (by decide)

def hexD (n : Nat) : UInt8 := if n < 10 then UInt8.ofNat (48 + n) else UInt8.ofNat (87 + n)
def hexB (c : UInt8) : List UInt8 := [hexD (c.toNat / 16), hexD (c.toNat % 16)]
def nibU (c : UInt8) : Option Nat := if 48 ≤ c.toNat ∧ c.toNat ≤ 57 then some (c.toNat - 48) else if 97 ≤ c.toNat ∧ c.toNat ≤ 102 then some (c.toNat - 87) else none
theorem nib_hex {n : Nat} (h : n < 16) : nibU (hexD n) = some n := by
  have : ∀ n : Nat, n < 16 → nibU (hexD n) = some n := by decide
  exact this n h
theorem hex_nib {c : UInt8} {n : Nat} (h : nibU c = some n) : hexD n = c ∧ n < 16 := by
  unfold nibU at h
  split at h
  · next hc =>
    have hn := Option.some.inj h
    refine ⟨?_, by omega⟩
    unfold hexD
    rw [if_pos (by omega), show 48 + n = c.toNat by omega]
    simp
  · split at h
    · next hc =>
      have hn := Option.some.inj h
      refine ⟨?_, by omega⟩
      unfold hexD
      rw [if_neg (by omega), show 87 + n = c.toNat by omega]
      simp
    · cases h
/-- The bytes that digits are, two each. -/
def unhex : List UInt8 → Option (List UInt8)
  | [] => some []
  | [_] => none
  | a :: b :: r => match nibU a, nibU b, unhex r with
    | some x, some y, some l => some (UInt8.ofNat (16 * x + y) :: l)
    | _, _, _ => none
def hexL (l : List UInt8) : List UInt8 := l.flatMap hexB
theorem unhex_hex (l : List UInt8) : unhex (hexL l) = some l := by
  induction l with
  | nil => rfl
  | cons c l ih =>
    have hc := c.toNat_lt
    show unhex (hexD (c.toNat / 16) :: hexD (c.toNat % 16) :: hexL l) = _
    unfold unhex
    rw [nib_hex (by omega), nib_hex (by omega), ih]
    simp only [Option.some.injEq, List.cons.injEq, and_true]
    rw [show 16 * (c.toNat / 16) + c.toNat % 16 = c.toNat by omega]
    simp
theorem hex_unhex : ∀ (s l : List UInt8), unhex s = some l → hexL l = s
  | [], l, h => by cases h; rfl
  | [a], l, h => by cases h
  | a :: b :: r, l, h => by
    unfold unhex at h
    cases ha : nibU a with
    | none => rw [ha] at h; cases h
    | some x =>
      cases hb : nibU b with
      | none => rw [ha, hb] at h; cases h
      | some y =>
        cases hr : unhex r with
        | none => rw [ha, hb, hr] at h; cases h
        | some m =>
          rw [ha, hb, hr] at h
          obtain rfl := Option.some.inj h
          obtain ⟨e1, l1⟩ := hex_nib ha
          obtain ⟨e2, l2⟩ := hex_nib hb
          have hc : (UInt8.ofNat (16 * x + y)).toNat = 16 * x + y := by rw [UInt8.toNat_ofNat']; omega
          show hexD ((UInt8.ofNat (16 * x + y)).toNat / 16) :: hexD ((UInt8.ofNat (16 * x + y)).toNat % 16) :: hexL m = _
          rw [hc, show (16 * x + y) / 16 = x by omega, show (16 * x + y) % 16 = y by omega, e1, e2, hex_unhex r m hr]

/-- A value's word, and back. -/
def valW (v : V) : List UInt8 := if v.k = 1 then Lib.itoa v.n else 39 :: hexL v.s.data.toList
def valU (w : List UInt8) : Option V := if w.headD 0 = 39 then (unhex w.tail).map (fun l => ⟨2, 0, mkB l⟩) else (numW w).map (fun z => ⟨1, z, mkB []⟩)
theorem itoa_head (z : Int) : (Lib.itoa z).headD 0 ≠ 39 := by
  unfold Lib.itoa
  split
  · show (45 : UInt8) ≠ 39; decide
  · have h := dec_digits z.toNat
    cases hd : Lib.decDigits z.toNat with
    | nil => show (0 : UInt8) ≠ 39; decide
    | cons c r =>
      rw [hd, List.all_cons, Bool.and_eq_true] at h
      have h1 := of_decide_eq_true h.1
      intro e
      have e : c = 39 := e
      rw [e] at h1
      have : (39 : UInt8).toNat = 39 := rfl
      omega
theorem valU_val (v : V) (hw : v.wf) (hk : okV v = true) : valU (valW v) = some v := by
  obtain ⟨k, n, s⟩ := v
  rcases (okV_iff _).1 hk with ⟨h1, h2⟩ | ⟨h1, h2⟩
  · dsimp only at h1 h2
    subst h1
    unfold valU valW
    rw [if_pos rfl, if_neg (itoa_head _), num_back _ hw.n0 hw.n1, ← mkB_self s, h2]
    rfl
  · dsimp only at h1 h2
    subst h1 h2
    have e : valW ⟨2, 0, s⟩ = 39 :: hexL s.data.toList := rfl
    rw [e]
    show (unhex (hexL s.data.toList)).map _ = _
    rw [unhex_hex, Option.map_some, mkB_self]
theorem val_valU (w : List UInt8) (v : V) (h : valU w = some v) : valW v = w ∧ okV v = true ∧ (v.s.size ≤ w.length) ∧ -9223372036854775808 ≤ v.n ∧ v.n < 9223372036854775808 := by
  unfold valU at h
  split at h
  · next hh =>
    cases hu : unhex w.tail with
    | none => rw [hu] at h; cases h
    | some l =>
      rw [hu, Option.map_some] at h
      obtain rfl := Option.some.inj h
      have he := hex_unhex _ _ hu
      have hw : w = 39 :: w.tail := by
        cases w with
        | nil => exact absurd hh (by decide)
        | cons c r => rw [show c = 39 from hh]; rfl
      refine ⟨?_, (okV_iff _).2 (.inr ⟨rfl, rfl⟩), ?_, by show (-9223372036854775808 : Int) ≤ 0; decide, by show (0 : Int) < 9223372036854775808; decide⟩
      · show 39 :: hexL (mkB l).data.toList = w
        rw [mkB_list, he, ← hw]
      · show (mkB l).size ≤ _
        rw [mkB_size, hw, ← he]
        have : ∀ l : List UInt8, l.length ≤ (hexL l).length := by
          intro l
          induction l with
          | nil => simp
          | cons c l ih => show l.length + 1 ≤ (hexB c ++ hexL l).length; rw [List.length_append]; show _ ≤ 2 + _; omega
        have h2 := this l
        simp only [List.length_cons]
        omega
  · cases hu : numW w with
    | none => rw [hu] at h; cases h
    | some z =>
      rw [hu, Option.map_some] at h
      obtain rfl := Option.some.inj h
      obtain ⟨h1, h2, h3⟩ := num_only _ _ hu
      refine ⟨?_, (okV_iff _).2 (.inl ⟨rfl, rfl⟩), by show (mkB []).size ≤ _; simp [mkB_size], h2, h3⟩
      unfold valW
      rw [if_pos rfl, h1]

/-- An instruction's words. -/
def opsW (n : Nat) (x : In) : List (List UInt8) := ([x.a, x.b, x.c].take n).map Lib.itoa
def wordsI (x : In) : List (List UInt8) := nameB x.op :: (opsW (nOps x.op) x ++ (if x.op = 1 then [valW x.v] else []))
/-- Operand number k of n, of words; whether it is one. -/
def atW (ws : List (List UInt8)) (n k : Nat) : Int := if k < n then (numW (ws.getD (k + 1) [])).getD 0 else 0
def isW (ws : List (List UInt8)) (n k : Nat) : Bool := if k < n then (match numW (ws.getD (k + 1) []) with | some z => byteOk z | none => false) else true
def valAt (op : Int) (ws : List (List UInt8)) : V := if op = 1 then (valU (ws.getD 2 [])).getD zV else zV
def valIs (op : Int) (ws : List (List UInt8)) : Bool := if op = 1 then (valU (ws.getD 2 [])).isSome else true
def rawI (ws : List (List UInt8)) : In := ⟨opU (ws.headD []), atW ws (nOps (opU (ws.headD []))) 0, atW ws (nOps (opU (ws.headD []))) 1, atW ws (nOps (opU (ws.headD []))) 2, valAt (opU (ws.headD [])) ws⟩
/-- How many words an Op's line has. -/
def wantW (op : Int) : Nat := 1 + nOps op + (if op = 1 then 1 else 0)
/-- The instruction that words are. -/
def instU (ws : List (List UInt8)) : Option In :=
  if opOk (opU (ws.headD [])) && decide (ws.length = wantW (opU (ws.headD []))) && (isW ws (nOps (opU (ws.headD []))) 0 && isW ws (nOps (opU (ws.headD []))) 1 && isW ws (nOps (opU (ws.headD []))) 2) && valIs (opU (ws.headD [])) ws && okI (rawI ws) then some (rawI ws) else none
theorem byte_num (o : Int) (h : byteOk o = true) : numW (Lib.itoa o) = some o := by
  have h1 := of_decide_eq_true h
  exact num_back o (by omega) (by omega)
theorem wordsI_len (x : In) : (wordsI x).length = wantW x.op := by
  have h := nOps_le x.op
  unfold wordsI wantW opsW
  rw [List.length_cons, List.length_append, List.length_map, List.length_take]
  have : min (nOps x.op) [x.a, x.b, x.c].length = nOps x.op := by simp; omega
  rw [this]
  split <;> simp <;> omega
theorem opsW_at (x : In) (n : Nat) (hn : n ≤ 3) (r : List (List UInt8)) (w0 : List UInt8) (ha : fitO n 0 x.a = true) (hb : fitO n 1 x.b = true) (hc : fitO n 2 x.c = true) :
    (atW (w0 :: (opsW n x ++ r)) n 0 = x.a ∧ atW (w0 :: (opsW n x ++ r)) n 1 = x.b ∧ atW (w0 :: (opsW n x ++ r)) n 2 = x.c) ∧ (isW (w0 :: (opsW n x ++ r)) n 0 = true ∧ isW (w0 :: (opsW n x ++ r)) n 1 = true ∧ isW (w0 :: (opsW n x ++ r)) n 2 = true) := by
  obtain ⟨a1, a2⟩ := fit_lt ha
  obtain ⟨b1, b2⟩ := fit_lt hb
  obtain ⟨c1, c2⟩ := fit_lt hc
  have ea := byte_num _ a1
  have eb := byte_num _ b1
  have ec := byte_num _ c1
  rcases (by omega : n = 0 ∨ n = 1 ∨ n = 2 ∨ n = 3) with rfl | rfl | rfl | rfl
  · refine ⟨⟨?_, ?_, ?_⟩, ?_, ?_, ?_⟩ <;> simp [atW, isW] <;> omega
  · refine ⟨⟨?_, ?_, ?_⟩, ?_, ?_, ?_⟩ <;> simp [atW, isW, opsW, ea, a1] <;> omega
  · refine ⟨⟨?_, ?_, ?_⟩, ?_, ?_, ?_⟩ <;> simp [atW, isW, opsW, ea, eb, a1, b1] <;> omega
  · refine ⟨⟨?_, ?_, ?_⟩, ?_, ?_, ?_⟩ <;> simp [atW, isW, opsW, ea, eb, ec, a1, b1, c1]
theorem instU_words (x : In) (hw : x.wf) (hk : okI x = true) : instU (wordsI x) = some x := by
  obtain ⟨o1, o2, o3, o4, o5⟩ := okI_parts hk
  have hn := nOps_le x.op
  have hop : opU ((wordsI x).headD []) = x.op := opU_name x.op o1
  have hlen := wordsI_len x
  obtain ⟨⟨h1, h2, h3⟩, h4, h5, h6⟩ := opsW_at x (nOps x.op) hn (if x.op = 1 then [valW x.v] else []) (nameB x.op) o2 o3 o4
  have hval : valAt x.op (wordsI x) = x.v ∧ valIs x.op (wordsI x) = true := by
    unfold valAt valIs
    by_cases h : x.op = 1
    · rw [if_pos h, if_pos h]
      rw [if_pos h] at o5
      unfold okC at o5
      rw [Bool.and_eq_true] at o5
      have hv := valU_val x.v hw.1 o5.1
      have hg : (wordsI x).getD 2 [] = valW x.v := by
        unfold wordsI
        rw [if_pos h, h, nOps1]
        rfl
      rw [hg, hv]
      exact ⟨rfl, rfl⟩
    · rw [if_neg h, if_neg h]
      rw [if_neg h] at o5
      exact ⟨((zeroB_iff _).1 o5).symm, rfl⟩
  have hraw : rawI (wordsI x) = x := by
    unfold rawI
    rw [hop, hval.1]
    have e1 : atW (wordsI x) (nOps x.op) 0 = x.a := h1
    have e2 : atW (wordsI x) (nOps x.op) 1 = x.b := h2
    have e3 : atW (wordsI x) (nOps x.op) 2 = x.c := h3
    rw [e1, e2, e3]
  unfold instU
  have e4 : isW (wordsI x) (nOps x.op) 0 = true := h4
  have e5 : isW (wordsI x) (nOps x.op) 1 = true := h5
  have e6 : isW (wordsI x) (nOps x.op) 2 = true := h6
  rw [hop, hraw, o1, decide_eq_true hlen, e4, e5, e6, hval.2, hk]
  rfl
theorem opsW_of (ws : List (List UInt8)) (n : Nat) (hn : n ≤ 3) (w0 : List UInt8) (r : List (List UInt8)) (he : ws = w0 :: r) (hl : n ≤ r.length) (h0 : isW ws n 0 = true) (h1 : isW ws n 1 = true) (h2 : isW ws n 2 = true) (op : Int) (v : V) :
    opsW n ⟨op, atW ws n 0, atW ws n 1, atW ws n 2, v⟩ = r.take n := by
  subst he
  have key : ∀ k, k < n → isW (w0 :: r) n k = true → Lib.itoa (atW (w0 :: r) n k) = r.getD k [] := by
    intro k hk h
    unfold isW at h
    unfold atW
    rw [if_pos hk] at h ⊢
    have e : (w0 :: r).getD (k + 1) [] = r.getD k [] := rfl
    rw [e] at h ⊢
    cases hu : numW (r.getD k []) with
    | none => rw [hu] at h; cases h
    | some z => rw [Option.getD_some]; exact (num_only _ _ hu).1
  unfold opsW
  rcases (by omega : n = 0 ∨ n = 1 ∨ n = 2 ∨ n = 3) with rfl | rfl | rfl | rfl
  · simp
  · match r, hl with
    | a :: r, _ => simp [key 0 (by omega) h0]
  · match r, hl with
    | a :: b :: r, _ => simp [key 0 (by omega) h0, key 1 (by omega) h1]
  · match r, hl with
    | a :: b :: c :: r, _ => simp [key 0 (by omega) h0, key 1 (by omega) h1, key 2 (by omega) h2]
theorem words_instU (ws : List (List UInt8)) (x : In) (h : instU ws = some x) : wordsI x = ws ∧ okI x = true := by
  unfold instU at h
  split at h
  · next hc =>
    simp only [Bool.and_eq_true, decide_eq_true_eq] at hc
    obtain ⟨⟨⟨⟨k1, k2⟩, ⟨k3, k4⟩, k5⟩, k6⟩, k7⟩ := hc
    obtain rfl := Option.some.inj h
    refine ⟨?_, k7⟩
    cases ws with
    | nil =>
      unfold wantW at k2
      simp at k2
      omega
    | cons w0 r =>
      have hop : opOk (opU w0) = true := k1
      have hl : (w0 :: r).length = wantW (opU w0) := k2
      have hn := nOps_le (opU w0)
      have hr : nOps (opU w0) ≤ r.length := by unfold wantW at hl; rw [List.length_cons] at hl; split at hl <;> omega
      have ho := opsW_of (w0 :: r) (nOps (opU w0)) hn w0 r rfl hr k3 k4 k5 (opU w0) (valAt (opU w0) (w0 :: r))
      show nameB (opU w0) :: (opsW (nOps (opU w0)) ⟨opU w0, _, _, _, _⟩ ++ (if opU w0 = 1 then [valW (valAt (opU w0) (w0 :: r))] else [])) = w0 :: r
      rw [name_opU w0 hop]
      rw [show opsW (nOps (opU w0)) ⟨opU w0, atW (w0 :: r) (nOps (opU ((w0 :: r).headD []))) 0, atW (w0 :: r) (nOps (opU ((w0 :: r).headD []))) 1, atW (w0 :: r) (nOps (opU ((w0 :: r).headD []))) 2, valAt (opU ((w0 :: r).headD [])) (w0 :: r)⟩ = r.take (nOps (opU w0)) from ho]
      congr 1
      by_cases h1 : opU w0 = 1
      · rw [if_pos h1]
        unfold wantW at hl
        rw [h1, nOps1, if_pos rfl] at hl
        rw [h1, nOps1]
        have k6' : valIs (opU w0) (w0 :: r) = true := k6
        rw [h1] at k6'
        match r, hl with
        | [a, b], _ =>
          unfold valIs at k6'
          rw [if_pos rfl] at k6'
          have e : (w0 :: [a, b]).getD 2 [] = b := rfl
          rw [e] at k6'
          obtain ⟨v, hv⟩ := Option.isSome_iff_exists.1 k6'
          have : valAt 1 (w0 :: [a, b]) = v := by unfold valAt; rw [if_pos rfl, e, hv]; rfl
          rw [this, (val_valU _ _ hv).1]
          rfl
      · rw [if_neg h1, List.append_nil]
        unfold wantW at hl
        rw [if_neg h1, List.length_cons] at hl
        exact List.take_of_length_le (by omega)
  · cases h

end Go.Proofs.YthopmlgfklhagaaGreatDoor
