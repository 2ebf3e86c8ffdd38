/- Plain: records and values as bytes, and how bytes are read; no memory. -/
import Derived.Test.YtamgnpmkmlhadaaIMath
namespace Go.Proofs.Ytamgnpmkmlhadaa
open Go.RowKit
set_option linter.unusedVariables false

/-- A record. -/
structure Rc9 where
  e : Int
  v : V
  sl : Int
  p : Int
  o : Int
  k : Int
def zR : Rc9 := ⟨0, zV, 0, 0, 0, 0⟩
def Rc9.wf (x : Rc9) : Prop := ir x.e ∧ x.v.wf ∧ ir x.sl ∧ ir x.p ∧ ir x.o ∧ ir x.k
def valO (v : V) : Bool := zeroB v || okC v
def okR (x : Rc9) : Bool := decide (0 ≤ x.e ∧ x.e ≤ 3) && (valO x.v && (decide (0 ≤ x.sl ∧ x.sl ≤ 1000000) && (byteOk x.p && (byteOk x.o && byteOk x.k))))
def encO (v : V) : List UInt8 := if v.k = 0 then be 0 1 else be 1 1 ++ encC v
def enc9 (x : Rc9) : List UInt8 := be x.e.toNat 1 ++ (encO x.v ++ (be x.sl.toNat 4 ++ (be x.p.toNat 1 ++ (be x.o.toNat 1 ++ be x.k.toNat 1))))
theorem zeroB_k {v : V} (h : zeroB v = true) : v.k = 0 := by rw [(zeroB_iff v).1 h]; rfl
theorem okC_k {v : V} (h : okC v = true) : v.k = 1 ∨ v.k = 2 := by
  unfold okC at h
  rw [Bool.and_eq_true] at h
  rcases (okV_iff v).1 h.1 with h1 | h1
  · exact .inl h1.1
  · exact .inr h1.1
theorem okC_S {v : V} (h : okC v = true) : v.s.size ≤ 10 := by
  unfold okC at h
  rw [Bool.and_eq_true] at h
  exact of_decide_eq_true h.2
theorem valO_cases {v : V} (h : valO v = true) : v = zV ∨ okC v = true := by
  unfold valO at h
  rw [Bool.or_eq_true] at h
  exact h.imp (zeroB_iff v).1 id
theorem encC_len (v : V) (h : okC v = true) : (encC v).length ≤ 12 := by
  have hs := okC_S h
  unfold encC
  split
  · rw [List.length_cons, be_len]; omega
  · rw [List.length_cons]
    unfold strB
    have : v.s.data.toList.length = v.s.size := by rw [Array.length_toList]; rfl
    rw [List.length_cons, List.length_take]
    omega
theorem encO_len (v : V) (h : valO v = true) : (encO v).length ≤ 13 := by
  unfold encO
  split
  · rw [be_len]; omega
  · rename_i h0
    rcases valO_cases h with rfl | hc
    · exact absurd rfl h0
    · rw [List.length_append, be_len]; have := encC_len v hc; omega
theorem okR_parts {x : Rc9} (h : okR x = true) : (0 ≤ x.e ∧ x.e ≤ 3) ∧ valO x.v = true ∧ (0 ≤ x.sl ∧ x.sl ≤ 1000000) ∧ byteOk x.p = true ∧ byteOk x.o = true ∧ byteOk x.k = true := by
  unfold okR at h
  simp only [Bool.and_eq_true] at h
  obtain ⟨h1, h2, h3, h4, h5, h6⟩ := h
  exact ⟨of_decide_eq_true h1, h2, of_decide_eq_true h3, h4, h5, h6⟩
theorem okR_of {x : Rc9} (h1 : 0 ≤ x.e ∧ x.e ≤ 3) (h2 : valO x.v = true) (h3 : 0 ≤ x.sl ∧ x.sl ≤ 1000000) (h4 : byteOk x.p = true) (h5 : byteOk x.o = true) (h6 : byteOk x.k = true) : okR x = true := by
  unfold okR
  simp only [Bool.and_eq_true]
  exact ⟨decide_eq_true h1, h2, decide_eq_true h3, h4, h5, h6⟩
theorem enc9_len (x : Rc9) (h : okR x = true) : (enc9 x).length ≤ 40 := by
  obtain ⟨_, hv, _⟩ := okR_parts h
  have := encO_len x.v hv
  unfold enc9
  simp only [List.length_append, be_len]
  omega

/-- A reader's state: the bytes that are left, the error. -/
abbrev Sr := ByteArray × Int
def nX (t : Sr) (k : Nat) : Nat := val (rawR t.1 t.2 k).data.toList
def nN (t : Sr) (k : Nat) : Sr := (rawS t.1 t.2 k, rawE t.1 t.2 k)
def sX (t : Sr) : ByteArray := strR t.1 t.2 10
def sN (t : Sr) : Sr := (strS t.1 t.2 10, strE t.1 t.2 10)
theorem num_app (n k : Nat) (r : List UInt8) (h : n < 2 ^ (8 * k)) : nX (mkB (be n k ++ r), 0) k = n ∧ nN (mkB (be n k ++ r), 0) k = (mkB r, 0) := by
  have hr := raw_app (be n k) r
  rw [be_len] at hr
  unfold nX nN
  dsimp only
  rw [hr.1, hr.2.1, hr.2.2, mkB_list, val_be, Nat.mod_eq_of_lt h]
  exact ⟨rfl, rfl⟩
theorem num_of (t : Sr) (k : Nat) (h : (nN t k).2 = 0) : t.2 = 0 ∧ t.1.data.toList = be (nX t k) k ++ (nN t k).1.data.toList ∧ nX t k < 2 ^ (8 * k) := by
  obtain ⟨s, e⟩ := t
  unfold nN rawE at h
  dsimp only at h
  by_cases he : e = 0
  · subst he
    rw [if_neg (by omega)] at h
    have hk : ¬ (s.size : Int) < (k : Int) := by
      intro hk; rw [if_pos hk] at h; omega
    unfold nX nN rawR rawS
    dsimp only
    have hc : ¬ ((0 : Int) ≠ 0 ∨ (k : Int) < 0 ∨ (s.size : Int) < (k : Int)) := by omega
    rw [if_neg hc, if_neg hc]
    have hlen : (s.extract 0 (k : Int).toNat).data.toList.length = k := by
      rw [Array.length_toList]
      show (s.extract 0 (k : Int).toNat).size = k
      rw [ByteArray.size_extract]
      omega
    have hb := be_back (s.extract 0 (k : Int).toNat).data.toList
    rw [hlen] at hb
    refine ⟨rfl, ?_, ?_⟩
    · rw [hb, ext_list, ext_list]
      have : s.data.toList.length = s.size := by rw [Array.length_toList]; rfl
      rw [show (k : Int).toNat = k from rfl, List.drop_zero, Nat.sub_zero, List.take_of_length_le (l := s.data.toList.drop k) (by rw [List.length_drop]; omega), List.take_append_drop]
    · have := val_lt (s.extract 0 (k : Int).toNat).data.toList
      rw [hlen] at this
      rw [Nat.pow_mul]
      exact this
  · rw [if_pos he] at h
    exact absurd h he
theorem str_ap10 (l r : List UInt8) (hl : l.length ≤ 10) : sX (mkB (strB l ++ r), 0) = mkB l ∧ sN (mkB (strB l ++ r), 0) = (mkB r, 0) := by
  have hm : min l.length 255 = l.length := by omega
  have ht : l.take 255 = l := List.take_of_length_le (by omega)
  have hz : (mkB (strB l ++ r)).size = 1 + (l.length + r.length) := by
    rw [mkB_size]; unfold strB; rw [ht]; simp; omega
  have hn : strN (mkB (strB l ++ r)) = l.length := by
    show (UInt8.ofNat (min l.length 255)).toNat = _
    rw [hm]
    simp
    omega
  have ok : strOk (mkB (strB l ++ r)) 0 10 = true := by
    unfold strOk
    rw [hz, hn]
    exact decide_eq_true ⟨rfl, by omega, by omega, by omega⟩
  have he : strE (mkB (strB l ++ r)) 0 10 = 0 := by
    unfold strE
    rw [if_neg (by omega), hz, hn, if_neg (by omega), if_neg (by omega), if_neg (by omega)]
  have hd : strB l ++ r = UInt8.ofNat (min l.length 255) :: (l ++ r) := by unfold strB; rw [ht]; rfl
  unfold sX sN
  dsimp only
  rw [he]
  refine ⟨?_, ?_⟩
  · unfold strR
    rw [ok, if_pos rfl, hn, hd, mkB_ext]
    congr 1
    rw [List.drop_succ_cons, List.drop_zero, show 1 + l.length - 1 = l.length by omega, List.take_left]
  · unfold strS
    rw [ok, if_pos rfl, hn, hz, hd, mkB_ext]
    refine Prod.ext ?_ rfl
    show mkB _ = mkB _
    congr 1
    rw [show 1 + l.length = l.length + 1 by omega, List.drop_succ_cons, List.drop_left, List.take_of_length_le (by omega)]
theorem str_of (t : Sr) (h : (sN t).2 = 0) : t.2 = 0 ∧ t.1.data.toList = strB (sX t).data.toList ++ (sN t).1.data.toList ∧ (sX t).size ≤ 10 := by
  obtain ⟨s, e⟩ := t
  unfold sN strE at h
  dsimp only at h
  by_cases he : e = 0
  · subst he
    rw [if_neg (by omega)] at h
    by_cases h0 : s.size = 0
    · rw [if_pos h0] at h; omega
    · rw [if_neg h0] at h
      by_cases h1 : (10 : Int) < (strN s : Int)
      · rw [if_pos h1] at h; omega
      · rw [if_neg h1] at h
        by_cases h2 : s.size ≤ strN s
        · rw [if_pos h2] at h; omega
        · have ok : strOk s 0 10 = true := by
            unfold strOk
            exact decide_eq_true ⟨rfl, by omega, by omega, by omega⟩
          have hX : sX (s, 0) = s.extract 1 (1 + strN s) := by unfold sX strR; rw [ok, if_pos rfl]
          have hN : (sN (s, 0)).1 = s.extract (1 + strN s) s.size := by unfold sN strS; rw [ok, if_pos rfl]
          have hL : s.data.toList.length = s.size := by rw [Array.length_toList]; rfl
          have hz : (s.extract 1 (1 + strN s)).size = strN s := by rw [ByteArray.size_extract]; omega
          have hz' : (s.extract 1 (1 + strN s)).data.toList.length = strN s := by rw [Array.length_toList]; exact hz
          rw [hX, hN]
          refine ⟨rfl, ?_, by omega⟩
          unfold strB
          rw [hz', List.take_of_length_le (by omega), show min (strN s) 255 = strN s by omega, ext_list, ext_list]
          have hs : ∃ c q, s.data.toList = c :: q := by
            cases hq : s.data.toList with
            | nil => rw [hq] at hL; simp at hL; omega
            | cons c q => exact ⟨c, q, rfl⟩
          obtain ⟨c, q, hq⟩ := hs
          have hn : strN s = c.toNat := by unfold strN; rw [hq]; rfl
          rw [hq, List.length_cons] at hL
          rw [hq, hn]
          rw [hn] at h2
          simp only [List.cons_append]
          congr 1
          · simp
          · rw [show 1 + c.toNat = c.toNat + 1 by omega, List.drop_succ_cons, List.drop_succ_cons, List.drop_zero, show c.toNat + 1 - 1 = c.toNat by omega, List.take_of_length_le (l := q.drop c.toNat) (by rw [List.length_drop]; omega), List.take_append_drop]
  · rw [if_pos he] at h
    exact absurd h he

/-- The next value, as the program reads it, and as the document does. -/
def vX (t : Sr) : V := if nX t 1 = 1 then ⟨1, wrap64 (nX (nN t 1) 8 : Int), mkB []⟩ else if nX t 1 = 2 then ⟨2, 0, sX (nN t 1)⟩ else ⟨(nX t 1 : Int), 0, mkB []⟩
def vN (t : Sr) : Sr := if nX t 1 = 1 then nN (nN t 1) 8 else if nX t 1 = 2 then sN (nN t 1) else nN t 1
def rvX (t : Sr) : V := if nX t 1 = 1 then ⟨1, wrap64 (nX (nN t 1) 8 : Int), mkB []⟩ else ⟨(nX t 1 : Int), 0, sX (nN t 1)⟩
def rvN (t : Sr) : Sr := if nX t 1 = 1 then nN (nN t 1) 8 else sN (nN t 1)
theorem be_one (c : UInt8) : be c.toNat 1 = [c] := by
  show [UInt8.ofNat (c.toNat / 2 ^ (8 * 0))] = _
  simp
theorem encC_be (v : V) (hk : okC v = true) : encC v = be v.k.toNat 1 ++ (if v.k = 1 then be (n2u v.n) 8 else strB v.s.data.toList) := by
  unfold encC
  rcases okC_k hk with h | h
  · rw [if_pos h, if_pos h, h]; rfl
  · rw [if_neg (by omega), if_neg (by omega), h]; rfl
theorem v_app (v : V) (r : List UInt8) (hw : v.wf) (hk : okC v = true) :
    (vX (mkB (encC v ++ r), 0) = v ∧ vN (mkB (encC v ++ r), 0) = (mkB r, 0)) ∧ rvX (mkB (encC v ++ r), 0) = v ∧ rvN (mkB (encC v ++ r), 0) = (mkB r, 0) := by
  have hkc := okC_k hk
  have hkk : (v.k.toNat : Int) = v.k := by omega
  rw [encC_be v hk, List.append_assoc]
  obtain ⟨h1, h2⟩ := num_app v.k.toNat 1 ((if v.k = 1 then be (n2u v.n) 8 else strB v.s.data.toList) ++ r) (by show _ < 256; omega)
  unfold vX vN rvX rvN
  rw [h1, h2]
  have hok := (okV_iff v).1 (by unfold okC at hk; rw [Bool.and_eq_true] at hk; exact hk.1)
  have hsz := okC_S hk
  obtain ⟨k, n, s⟩ := v
  dsimp only at *
  rcases hkc with rfl | rfl
  · have hs0 : s.data.toList = [] := hok.elim (fun h => h.2) (fun h => absurd h.1 (by decide))
    have hs : s = mkB [] := by rw [← mkB_self s, hs0]
    obtain ⟨h3, h4⟩ := num_app (n2u n) 8 r (by unfold n2u; show _ < 18446744073709551616; omega)
    rw [if_pos rfl, if_pos (show (1 : Int).toNat = 1 from rfl), if_pos (show (1 : Int).toNat = 1 from rfl), if_pos (show (1 : Int).toNat = 1 from rfl), if_pos (show (1 : Int).toNat = 1 from rfl), h3, h4, hs]
    have hn : wrap64 (n2u n : Int) = n := by
      have := n2u_back n hw.n0 hw.n1
      rw [Nat.mod_eq_of_lt (by unfold n2u; show _ < 18446744073709551616; omega)] at this
      exact this
    rw [hn]
    exact ⟨⟨rfl, rfl⟩, rfl, rfl⟩
  · have hn0 : n = 0 := hok.elim (fun h => absurd h.1 (by decide)) (fun h => h.2)
    subst hn0
    have hL : s.data.toList.length = s.size := by rw [Array.length_toList]; rfl
    obtain ⟨h3, h4⟩ := str_ap10 s.data.toList r (by omega)
    have e1 : ¬ (2 : Int).toNat = 1 := by decide
    have e2 : (2 : Int).toNat = 2 := rfl
    have e3 : ¬ (2 : Int) = 1 := by decide
    simp only [if_neg e1, if_pos e2, if_neg e3, h3, h4, mkB_self]
    exact ⟨⟨trivial, trivial⟩, rfl, trivial⟩
theorem v_of (t : Sr) (h : (rvN t).2 = 0) (hk : okC (rvX t) = true) : t.2 = 0 ∧ t.1.data.toList = encC (rvX t) ++ (rvN t).1.data.toList := by
  rw [encC_be _ hk]
  have hkk := okC_k hk
  unfold rvN at h ⊢
  unfold rvX at hk hkk ⊢
  by_cases h1 : nX t 1 = 1
  · rw [if_pos h1] at h hk ⊢
    rw [if_pos h1]
    obtain ⟨ha, hb, hc⟩ := num_of _ 8 h
    obtain ⟨hd, he, hf⟩ := num_of _ 1 ha
    refine ⟨hd, ?_⟩
    rw [he, h1, hb, if_pos rfl]
    have : n2u (wrap64 (nX (nN t 1) 8 : Int)) = nX (nN t 1) 8 := wrap_u64 _ (by
      rw [show (2 : Nat) ^ (8 * 8) = 18446744073709551616 from by decide] at hc
      omega)
    rw [this, List.append_assoc]
    rfl
  · rw [if_neg h1] at h hk hkk ⊢
    rw [if_neg h1]
    obtain ⟨ha, hb, hc⟩ := str_of _ h
    obtain ⟨hd, he, hf⟩ := num_of _ 1 ha
    refine ⟨hd, ?_⟩
    dsimp only at hkk ⊢
    rw [he, hb, if_neg (by omega), List.append_assoc]
    rfl

/-- The next record, as the program reads it, and as the document does. -/
def pV (t : Sr) : V := if nX t 1 = 1 then vX (nN t 1) else zV
def pVn (t : Sr) : Sr := if nX t 1 = 1 then vN (nN t 1) else nN t 1
def rV (t : Sr) : V := if nX t 1 = 1 then rvX (nN t 1) else zV
def rVn (t : Sr) : Sr := if nX t 1 = 1 then rvN (nN t 1) else nN t 1
def mkR (t : Sr) (e : Nat) (v : V) : Rc9 := ⟨(e : Int), v, (nX t 4 : Int), (nX (nN t 4) 1 : Int), (nX (nN (nN t 4) 1) 1 : Int), (nX (nN (nN (nN t 4) 1) 1) 1 : Int)⟩
def endR (t : Sr) : Sr := nN (nN (nN (nN t 4) 1) 1) 1
def pR9 (t : Sr) : Rc9 := mkR (pVn (nN t 1)) (nX t 1) (pV (nN t 1))
def rR9 (t : Sr) : Rc9 := mkR (rVn (nN t 1)) (nX t 1) (rV (nN t 1))
theorem byteOk_nat {o : Int} (h : byteOk o = true) : (o.toNat : Int) = o ∧ o.toNat < 256 := by
  unfold byteOk at h
  have := of_decide_eq_true h
  omega
theorem tail_app (sl p o k e : Nat) (v : V) (h1 : sl < 2 ^ 32) (h2 : p < 256) (h3 : o < 256) (h4 : k < 256) :
    mkR (mkB (be sl 4 ++ (be p 1 ++ (be o 1 ++ be k 1))), 0) e v = ⟨(e : Int), v, (sl : Int), (p : Int), (o : Int), (k : Int)⟩ ∧ endR (mkB (be sl 4 ++ (be p 1 ++ (be o 1 ++ be k 1))), 0) = (mkB [], 0) := by
  obtain ⟨a1, a2⟩ := num_app sl 4 (be p 1 ++ (be o 1 ++ be k 1)) h1
  obtain ⟨b1, b2⟩ := num_app p 1 (be o 1 ++ be k 1) h2
  obtain ⟨c1, c2⟩ := num_app o 1 (be k 1) h3
  obtain ⟨d1, d2⟩ := num_app k 1 [] h4
  rw [List.append_nil] at d1 d2
  unfold mkR endR
  rw [a1, a2, b1, b2, c1, c2, d1, d2]
  exact ⟨rfl, rfl⟩
theorem o_app (v : V) (r : List UInt8) (hw : v.wf) (hk : valO v = true) :
    (pV (mkB (encO v ++ r), 0) = v ∧ pVn (mkB (encO v ++ r), 0) = (mkB r, 0)) ∧ rV (mkB (encO v ++ r), 0) = v ∧ rVn (mkB (encO v ++ r), 0) = (mkB r, 0) := by
  unfold encO pV pVn rV rVn
  by_cases h0 : v.k = 0
  · rw [if_pos h0]
    obtain ⟨h1, h2⟩ := num_app 0 1 r (by decide)
    rw [h1, h2, if_neg (by decide), if_neg (by decide), if_neg (by decide), if_neg (by decide)]
    rcases valO_cases hk with rfl | hc
    · exact ⟨⟨rfl, rfl⟩, rfl, rfl⟩
    · have := okC_k hc; omega
  · rw [if_neg h0, List.append_assoc]
    obtain ⟨h1, h2⟩ := num_app 1 1 (encC v ++ r) (by decide)
    rw [h1, h2, if_pos rfl, if_pos rfl, if_pos rfl, if_pos rfl]
    rcases valO_cases hk with rfl | hc
    · exact absurd rfl h0
    · exact v_app v r hw hc
/-- What was written is read again: by both. -/
theorem r_app (x : Rc9) (hw : x.wf) (hk : okR x = true) : pR9 (mkB (enc9 x), 0) = x ∧ rR9 (mkB (enc9 x), 0) = x ∧ endR (rVn (nN (mkB (enc9 x), 0) 1)) = (mkB [], 0) ∧ nX (nN (mkB (enc9 x), 0) 1) 1 < 2 := by
  obtain ⟨h1, h2, h3, h4, h5, h6⟩ := okR_parts hk
  unfold enc9 pR9 rR9
  obtain ⟨a1, a2⟩ := num_app x.e.toNat 1 (encO x.v ++ (be x.sl.toNat 4 ++ (be x.p.toNat 1 ++ (be x.o.toNat 1 ++ be x.k.toNat 1)))) (by show _ < 256; omega)
  obtain ⟨⟨b1, b2⟩, b3, b4⟩ := o_app x.v (be x.sl.toNat 4 ++ (be x.p.toNat 1 ++ (be x.o.toNat 1 ++ be x.k.toNat 1))) hw.2.1 h2
  rw [a1, a2, b1, b2, b3, b4]
  obtain ⟨c1, c2⟩ := tail_app x.sl.toNat x.p.toNat x.o.toNat x.k.toNat x.e.toNat x.v (by omega) (byteOk_nat h4).2 (byteOk_nat h5).2 (byteOk_nat h6).2
  rw [c1, c2, (byteOk_nat h4).1, (byteOk_nat h5).1, (byteOk_nat h6).1, show (x.e.toNat : Int) = x.e by omega, show (x.sl.toNat : Int) = x.sl by omega]
  refine ⟨rfl, rfl, rfl, ?_⟩
  unfold encO
  split
  · rw [(num_app 0 1 _ (by decide)).1]; omega
  · rw [List.append_assoc, (num_app 1 1 _ (by decide)).1]; omega
theorem enc9_inj (x y : Rc9) (hx : x.wf) (hy : y.wf) (kx : okR x = true) (ky : okR y = true) (h : enc9 x = enc9 y) : x = y := by
  have a := (r_app x hx kx).1
  rw [h, (r_app y hy ky).1] at a
  exact a.symm
theorem encC_inj (x y : V) (hx : x.wf) (hy : y.wf) (kx : okC x = true) (ky : okC y = true) (h : encC x = encC y) : x = y := by
  have a := (v_app x [] hx kx).1.1
  rw [h, (v_app y [] hy ky).1.1] at a
  exact a.symm
theorem tail_of (t : Sr) (e : Nat) (v : V) (h : (endR t).2 = 0) : t.2 = 0 ∧ t.1.data.toList = be (mkR t e v).sl.toNat 4 ++ (be (mkR t e v).p.toNat 1 ++ (be (mkR t e v).o.toNat 1 ++ (be (mkR t e v).k.toNat 1 ++ (endR t).1.data.toList))) := by
  unfold endR at h ⊢
  obtain ⟨a1, a2, _⟩ := num_of _ 1 h
  obtain ⟨b1, b2, _⟩ := num_of _ 1 a1
  obtain ⟨c1, c2, _⟩ := num_of _ 1 b1
  obtain ⟨d1, d2, _⟩ := num_of _ 4 c1
  refine ⟨d1, ?_⟩
  rw [d2, c2, b2, a2]
  rfl
theorem o_of (t : Sr) (h : (rVn t).2 = 0) (h2 : nX t 1 < 2) (hk : nX t 1 = 1 → okC (rV t) = true) : t.2 = 0 ∧ t.1.data.toList = encO (rV t) ++ (rVn t).1.data.toList := by
  unfold rVn at h ⊢
  unfold rV at hk ⊢
  by_cases h1 : nX t 1 = 1
  · rw [if_pos h1] at h hk ⊢
    rw [if_pos h1]
    have hk := hk h1
    obtain ⟨a1, a2⟩ := v_of _ h hk
    obtain ⟨b1, b2, _⟩ := num_of _ 1 a1
    refine ⟨b1, ?_⟩
    unfold encO
    have := okC_k hk
    rw [if_neg (by omega), b2, a2, h1, List.append_assoc]
  · rw [if_neg h1] at h hk ⊢
    rw [if_neg h1]
    obtain ⟨b1, b2, _⟩ := num_of _ 1 h
    refine ⟨b1, ?_⟩
    rw [b2]
    unfold encO
    rw [if_pos (show zV.k = 0 from rfl), show nX t 1 = 0 by omega]
theorem r_of (s : ByteArray) (h : (endR (rVn (nN (s, 0) 1))).2 = 0) (hz : (endR (rVn (nN (s, 0) 1))).1.size = 0) (h2 : nX (nN (s, 0) 1) 1 < 2) (hk : nX (nN (s, 0) 1) 1 = 1 → okC (rV (nN (s, 0) 1)) = true) : enc9 (rR9 (s, 0)) = s.data.toList := by
  have hz' : (endR (rVn (nN (s, 0) 1))).1.data.toList = [] := by
    have : (endR (rVn (nN (s, 0) 1))).1.data.toList.length = 0 := by rw [Array.length_toList]; exact hz
    exact List.length_eq_zero_iff.1 this
  obtain ⟨a1, a2⟩ := tail_of _ (nX (s, 0) 1) (rV (nN (s, 0) 1)) h
  obtain ⟨b1, b2⟩ := o_of _ a1 h2 hk
  obtain ⟨c1, c2, _⟩ := num_of _ 1 b1
  have e : s.data.toList = (s, (0 : Int)).1.data.toList := rfl
  rw [e, c2, b2, a2, hz', List.append_nil]
  rfl

/-- Which record bytes are, and the error. -/
def ToldR (s : ByteArray) (x : Rc9) (er : Int) : Prop := (er = 0 ∧ okR x = true ∧ x.wf ∧ enc9 x = s.data.toList) ∨ (er = 10 ∧ x = zR ∧ ∀ y : Rc9, y.wf → okR y = true → enc9 y ≠ s.data.toList)
theorem told_one {s : ByteArray} {x y : Rc9} {e f : Int} (h : ToldR s x e) (g : ToldR s y f) : x = y ∧ e = f := by
  rcases h with ⟨rfl, h1, h2, h3⟩ | ⟨rfl, rfl, h1⟩ <;> rcases g with ⟨rfl, g1, g2, g3⟩ | ⟨rfl, rfl, g1⟩
  · exact ⟨enc9_inj x y h2 g2 h1 g1 (h3.trans g3.symm), rfl⟩
  · exact absurd h3 (g1 x h2 h1)
  · exact absurd g3 (h1 y g2 g1)
  · exact ⟨rfl, rfl⟩
/-- Which value bytes are, and the error. -/
def ToldW (s : ByteArray) (x : V) (er : Int) : Prop := (er = 0 ∧ okC x = true ∧ x.wf ∧ encC x = s.data.toList) ∨ (er = 10 ∧ x = zV ∧ ∀ y : V, y.wf → okC y = true → encC y ≠ s.data.toList)
theorem toldW_one {s : ByteArray} {x y : V} {e f : Int} (h : ToldW s x e) (g : ToldW s y f) : x = y ∧ e = f := by
  rcases h with ⟨rfl, h1, h2, h3⟩ | ⟨rfl, rfl, h1⟩ <;> rcases g with ⟨rfl, g1, g2, g3⟩ | ⟨rfl, rfl, g1⟩
  · exact ⟨encC_inj x y h2 g2 h1 g1 (h3.trans g3.symm), rfl⟩
  · exact absurd h3 (g1 x h2 h1)
  · exact absurd g3 (h1 y g2 g1)
  · exact ⟨rfl, rfl⟩
/-- The bytes of a value, of a record; the error. -/
def vB (x : V) : ByteArray := if okC x then mkB (encC x) else mkB []
def vE (x : V) : Int := if okC x then 0 else 6
def rB (x : Rc9) : ByteArray := if okR x then mkB (enc9 x) else mkB []
def rE9 (x : Rc9) : Int := if okR x then 0 else 4
end Go.Proofs.Ytamgnpmkmlhadaa
