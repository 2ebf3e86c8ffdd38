/- Reading a node's page: what the states of a reader tell, and that it is just what is written: plain mathematics, nothing of the program. Conditions: those that each theorem states. -/
import Derived.Test.YtponhibiomcidaaDoorNMath
namespace Go.Proofs.YtponhibiomcidaaDoor
set_option linter.unusedVariables false

/-- A reader's state, behind a text, behind a number; what was told. -/
abbrev Rst := ByteArray × Int
def sStr (r : Rst) (m : Int) : Rst := (strS r.1 r.2 m, strE r.1 r.2 m)
def gStr (r : Rst) (m : Int) : ByteArray := strR r.1 r.2 m
def sNum (r : Rst) (k : Int) : Rst := (rawS r.1 r.2 (wid k), rawE r.1 r.2 (wid k))
def gNum (r : Rst) (k : Int) : Nat := val (rawR r.1 r.2 (wid k)).data.toList
def ldS (r : Rst) : Nat → Rst
  | 0 => r
  | j + 1 => sStr (sStr (ldS r j) 32) 40
def ldP (r : Rst) : Nat → List Pr
  | 0 => []
  | j + 1 => ldP r j ++ [⟨gStr (ldS r j) 32, gStr (sStr (ldS r j) 32) 40⟩]
def ndS (r : Rst) : Nat → Rst
  | 0 => r
  | j + 1 => sNum (sStr (ndS r j) 32) 2
def ndK (r : Rst) : Nat → List ByteArray
  | 0 => []
  | j + 1 => ndK r j ++ [gStr (ndS r j) 32]
def ndD (r : Rst) : Nat → List Int
  | 0 => []
  | j + 1 => ndD r j ++ [(gNum (sStr (ndS r j) 32) 2 : Int)]
theorem ldP_len (r : Rst) : ∀ j, (ldP r j).length = j
  | 0 => rfl
  | j + 1 => by rw [ldP, List.length_append, ldP_len r j]; rfl
theorem ndK_len (r : Rst) : ∀ j, (ndK r j).length = j
  | 0 => rfl
  | j + 1 => by rw [ndK, List.length_append, ndK_len r j]; rfl
theorem ndD_len (r : Rst) : ∀ j, (ndD r j).length = j
  | 0 => rfl
  | j + 1 => by rw [ndD, List.length_append, ndD_len r j]; rfl
theorem strE_stuck (s : ByteArray) (e m : Int) (h : e ≠ 0) : strE s e m = e := by unfold strE; rw [if_pos h]
theorem rawE_stuck (s : ByteArray) (e k : Int) (h : e ≠ 0) : rawE s e k = e := by unfold rawE; rw [if_pos h]
theorem sStr_stuck (r : Rst) (m : Int) (h : r.2 ≠ 0) : (sStr r m).2 ≠ 0 := by show strE _ _ _ ≠ 0; rw [strE_stuck _ _ _ h]; exact h
theorem sNum_stuck (r : Rst) (k : Int) (h : r.2 ≠ 0) : (sNum r k).2 ≠ 0 := by show rawE _ _ _ ≠ 0; rw [rawE_stuck _ _ _ h]; exact h
theorem strR_size (s : ByteArray) (e m : Int) : (strR s e m).size ≤ 255 := by
  unfold strR
  split
  · rw [ByteArray.size_extract]
    have : strN s < 256 := UInt8.toNat_lt _
    omega
  · exact Nat.zero_le _
theorem gStr_size (r : Rst) (m : Int) : (gStr r m).size ≤ 255 := strR_size _ _ _
theorem strS_size (s : ByteArray) (e m : Int) : (strS s e m).size ≤ s.size := by
  unfold strS
  split
  · rw [ByteArray.size_extract]; omega
  · exact Nat.le_refl _
theorem rawS_size (s : ByteArray) (e k : Int) : (rawS s e k).size ≤ s.size := by
  unfold rawS
  split
  · exact Nat.le_refl _
  · rw [ByteArray.size_extract]; omega
theorem ldS_size (r : Rst) : ∀ j, (ldS r j).1.size ≤ r.1.size
  | 0 => Nat.le_refl _
  | j + 1 => Nat.le_trans (strS_size _ _ _) (Nat.le_trans (strS_size _ _ _) (ldS_size r j))
theorem ndS_size (r : Rst) : ∀ j, (ndS r j).1.size ≤ r.1.size
  | 0 => Nat.le_refl _
  | j + 1 => Nat.le_trans (rawS_size _ _ _) (Nat.le_trans (strS_size _ _ _) (ndS_size r j))
theorem gNum_lt (r : Rst) : gNum r 2 < 65536 := by
  unfold gNum
  have h1 := val_lt (rawR r.1 r.2 (wid 2)).data.toList
  have h2 : (rawR r.1 r.2 (wid 2)).data.toList.length ≤ 2 := by
    rw [size_list]
    have := rawR_size r.1 r.2 (wid 2)
    have e : ((wid 2 : Nat) : Int) = 2 := rfl
    omega
  exact Nat.lt_of_lt_of_le h1 (Nat.le_trans (Nat.pow_le_pow_right (by omega) h2) (by omega))
/-- A text of at most so many bytes. -/
def pStrM (m : Nat) (l : List UInt8) : Option (ByteArray × List UInt8) := match pStr l with
  | some (k, r) => if k.size ≤ m then some (k, r) else none
  | none => none
theorem step_str (l : List UInt8) (m : Nat) : match pStrM m l with
    | some (k, r) => gStr (mkB l, 0) m = k ∧ sStr (mkB l, 0) m = (mkB r, 0)
    | none => (sStr (mkB l, 0) m).2 ≠ 0 := by
  have hsz := mkB_size l
  cases l with
  | nil =>
    show strE (mkB []) 0 m ≠ 0
    unfold strE
    rw [if_neg (by omega), if_pos (by rw [mkB_size]; rfl)]
    omega
  | cons c r =>
    have hN : strN (mkB (c :: r)) = c.toNat := rfl
    unfold pStrM pStr
    dsimp only
    simp only [List.length_cons] at hsz
    by_cases h1 : c.toNat ≤ r.length
    · rw [if_pos h1]
      dsimp only
      have hk : (mkB (r.take c.toNat)).size = c.toNat := by rw [mkB_size, List.length_take]; omega
      rw [hk]
      by_cases h2 : c.toNat ≤ m
      · rw [if_pos h2]
        have hok : strOk (mkB (c :: r)) 0 (m : Int) = true := by
          unfold strOk
          rw [decide_eq_true_eq, hN]
          omega
        refine ⟨?_, ?_⟩
        · show strR _ _ _ = _
          unfold strR
          rw [if_pos hok, hN, mkB_ext]
          congr 1
          show r.take _ = _
          congr 1
          omega
        · have e1 : strS (mkB (c :: r)) 0 (m : Int) = mkB (r.drop c.toNat) := by
            unfold strS
            rw [if_pos hok, hN, mkB_ext]
            congr 1
            rw [show 1 + c.toNat = c.toNat + 1 by omega, List.drop_succ_cons]
            exact List.take_of_length_le (by rw [List.length_drop]; omega)
          have e2 : strE (mkB (c :: r)) 0 (m : Int) = 0 := by
            unfold strE
            rw [if_neg (by omega), if_neg (by omega), hN, if_neg (by omega), if_neg (by omega)]
          show (strS _ _ _, strE _ _ _) = _
          rw [e1, e2]
      · rw [if_neg h2]
        show strE (mkB (c :: r)) 0 (m : Int) ≠ 0
        unfold strE
        rw [if_neg (by omega), if_neg (by omega), hN, if_pos (by omega)]
        omega
    · rw [if_neg h1]
      show strE (mkB (c :: r)) 0 (m : Int) ≠ 0
      unfold strE
      rw [if_neg (by omega), if_neg (by omega), hN]
      split
      · omega
      · rw [if_pos (by omega)]; omega
theorem step_num (l : List UInt8) : if 2 ≤ l.length then gNum (mkB l, 0) 2 = val (l.take 2) ∧ sNum (mkB l, 0) 2 = (mkB (l.drop 2), 0) else (sNum (mkB l, 0) 2).2 ≠ 0 := by
  have hw : wid 2 = 2 := rfl
  split
  · rename_i h
    have h1 := raw_app (l.take 2) (l.drop 2)
    rw [List.take_append_drop, List.length_take, Nat.min_eq_left h] at h1
    unfold gNum sNum
    rw [hw]
    dsimp only
    rw [h1.1, h1.2.1, h1.2.2, mkB_list]
    exact ⟨rfl, rfl⟩
  · rename_i h
    show rawE (mkB l) 0 (wid 2 : Nat) ≠ 0
    unfold rawE
    rw [if_neg (by omega), if_pos (by rw [mkB_size, hw]; omega)]
    omega
/-- Pairs in turn. -/
def pPrsM : Nat → List UInt8 → Option (List Pr × List UInt8)
  | 0, l => some ([], l)
  | j + 1, l => match pPrsM j l with
    | none => none
    | some (ps, r) => match pStrM 32 r with
      | none => none
      | some (k, r1) => match pStrM 40 r1 with
        | none => none
        | some (v, r2) => some (ps ++ [⟨k, v⟩], r2)
theorem ld_spec (l : List UInt8) : ∀ j, match pPrsM j l with
    | some (ps, r) => ldP (mkB l, 0) j = ps ∧ ldS (mkB l, 0) j = (mkB r, 0)
    | none => (ldS (mkB l, 0) j).2 ≠ 0
  | 0 => ⟨rfl, rfl⟩
  | j + 1 => by
    have ih := ld_spec l j
    show match (match pPrsM j l with
      | none => none
      | some (ps, r) => match pStrM 32 r with
        | none => none
        | some (k, r1) => match pStrM 40 r1 with
          | none => none
          | some (v, r2) => some (ps ++ [(⟨k, v⟩ : Pr)], r2)) with
      | some (ps, r) => ldP (mkB l, 0) j ++ [(⟨gStr (ldS (mkB l, 0) j) 32, gStr (sStr (ldS (mkB l, 0) j) 32) 40⟩ : Pr)] = ps ∧ sStr (sStr (ldS (mkB l, 0) j) 32) 40 = (mkB r, 0)
      | none => (sStr (sStr (ldS (mkB l, 0) j) 32) 40).2 ≠ 0
    cases h : pPrsM j l with
    | none =>
      rw [h] at ih
      exact sStr_stuck _ _ (sStr_stuck _ _ ih)
    | some x =>
      obtain ⟨ps, r⟩ := x
      rw [h] at ih
      dsimp only at ih ⊢
      rw [ih.1, ih.2]
      have h1 := step_str r 32
      cases e1 : pStrM 32 r with
      | none =>
        rw [e1] at h1
        exact sStr_stuck _ _ h1
      | some y =>
        obtain ⟨k, r1⟩ := y
        rw [e1] at h1
        dsimp only at h1 ⊢
        rw [show ((32 : Nat) : Int) = 32 from rfl] at h1
        rw [h1.1, h1.2]
        have h2 := step_str r1 40
        cases e2 : pStrM 40 r1 with
        | none =>
          rw [e2] at h2
          exact h2
        | some z =>
          obtain ⟨v, r2⟩ := z
          rw [e2] at h2
          dsimp only at h2 ⊢
          rw [show ((40 : Nat) : Int) = 40 from rfl] at h2
          rw [h2.1, h2.2]
          exact ⟨rfl, rfl⟩
theorem pStrM_some {m : Nat} {l r : List UInt8} {k : ByteArray} (h : pStrM m l = some (k, r)) : l = strB k.data.toList ++ r ∧ k.size ≤ m ∧ k.size ≤ 255 := by
  unfold pStrM at h
  split at h
  · rename_i k' r' e
    split at h
    · rename_i hm
      cases h
      unfold pStr at e
      split at e
      · rename_i c q
        split at e
        · rename_i hc
          cases e
          have hk : (mkB (q.take c.toNat)).size = c.toNat := by rw [mkB_size, List.length_take]; omega
          have h255 : c.toNat < 256 := UInt8.toNat_lt _
          refine ⟨?_, hm, by omega⟩
          rw [strB_short _ (by rw [size_list]; omega), size_list, hk, mkB_list, List.cons_append, List.take_append_drop, UInt8.ofNat_toNat]
        · cases e
      · cases e
    · cases h
  · cases h
theorem pStrM_enc (m : Nat) (s : ByteArray) (r : List UInt8) (h : s.size ≤ m) (h' : s.size ≤ 255) : pStrM m (strB s.data.toList ++ r) = some (s, r) := by
  unfold pStrM
  rw [pStr_enc s r h']
  dsimp only
  rw [if_pos h]
theorem encPs_snoc (l : List Pr) (p : Pr) : encPs (l ++ [p]) = encPs l ++ encPr p := by simp [encPs]
theorem pPrsM_some (l : List UInt8) : ∀ j ps r, pPrsM j l = some (ps, r) → ps.length = j ∧ l = encPs ps ++ r
  | 0, ps, r, h => by
    cases h
    exact ⟨rfl, rfl⟩
  | j + 1, ps, r, h => by
    unfold pPrsM at h
    split at h
    · cases h
    · rename_i ps0 r0 e0
      split at h
      · cases h
      · rename_i k r1 e1
        split at h
        · cases h
        · rename_i v r2 e2
          cases h
          obtain ⟨i1, i2⟩ := pPrsM_some l j ps0 r0 e0
          obtain ⟨a1, a2, a3⟩ := pStrM_some e1
          obtain ⟨b1, b2, b3⟩ := pStrM_some e2
          refine ⟨by rw [List.length_append, i1]; rfl, ?_⟩
          rw [i2, a1, b1, encPs_snoc]
          unfold encPr
          simp only [List.append_assoc]
theorem snoc_of {α : Type} {l : List α} {j : Nat} (h : l.length = j + 1) : ∃ q p, l = q ++ [p] ∧ q.length = j := by
  refine ⟨l.take j, l[j]'(by omega), ?_, by rw [List.length_take]; omega⟩
  rw [← List.take_succ_eq_append_getElem, List.take_of_length_le (by omega)]
theorem pPrsM_enc : ∀ (j : Nat) (ps : List Pr) (r : List UInt8), ps.length = j → (∀ p ∈ ps, p.k.size ≤ 32 ∧ p.v.size ≤ 40) → pPrsM j (encPs ps ++ r) = some (ps, r)
  | 0, ps, r, h, _ => by
    rw [List.length_eq_zero_iff.1 h]
    rfl
  | j + 1, ps, r, h, hs => by
    obtain ⟨q, p, rfl, hq⟩ := snoc_of h
    have hp := hs p (by simp)
    have e : encPs (q ++ [p]) ++ r = encPs q ++ (strB p.k.data.toList ++ (strB p.v.data.toList ++ r)) := by
      rw [encPs_snoc]
      unfold encPr
      simp only [List.append_assoc]
    rw [e]
    unfold pPrsM
    rw [pPrsM_enc j q _ hq (fun x hx => hs x (by simp [hx]))]
    dsimp only
    rw [pStrM_enc _ _ _ hp.1 (by omega)]
    dsimp only
    rw [pStrM_enc _ _ _ hp.2 (by omega)]
/-- Keys with kids in turn. -/
def pKsM : Nat → List UInt8 → Option (List ByteArray × List Int × List UInt8)
  | 0, l => some ([], [], l)
  | j + 1, l => match pKsM j l with
    | none => none
    | some (ks, ds, r) => match pStrM 32 r with
      | none => none
      | some (k, r1) => if 2 ≤ r1.length then some (ks ++ [k], ds ++ [(val (r1.take 2) : Int)], r1.drop 2) else none
theorem nd_spec (l : List UInt8) : ∀ j, match pKsM j l with
    | some (ks, ds, r) => ndK (mkB l, 0) j = ks ∧ ndD (mkB l, 0) j = ds ∧ ndS (mkB l, 0) j = (mkB r, 0)
    | none => (ndS (mkB l, 0) j).2 ≠ 0
  | 0 => ⟨rfl, rfl, rfl⟩
  | j + 1 => by
    have ih := nd_spec l j
    show match (match pKsM j l with
      | none => none
      | some (ks, ds, r) => match pStrM 32 r with
        | none => none
        | some (k, r1) => if 2 ≤ r1.length then some (ks ++ [k], ds ++ [(val (r1.take 2) : Int)], r1.drop 2) else none) with
      | some (ks, ds, r) => ndK (mkB l, 0) j ++ [gStr (ndS (mkB l, 0) j) 32] = ks ∧ ndD (mkB l, 0) j ++ [(gNum (sStr (ndS (mkB l, 0) j) 32) 2 : Int)] = ds ∧ sNum (sStr (ndS (mkB l, 0) j) 32) 2 = (mkB r, 0)
      | none => (sNum (sStr (ndS (mkB l, 0) j) 32) 2).2 ≠ 0
    cases h : pKsM j l with
    | none =>
      rw [h] at ih
      exact sNum_stuck _ _ (sStr_stuck _ _ ih)
    | some x =>
      obtain ⟨ks, ds, r⟩ := x
      rw [h] at ih
      dsimp only at ih ⊢
      rw [ih.1, ih.2.1, ih.2.2]
      have h1 := step_str r 32
      cases e1 : pStrM 32 r with
      | none =>
        rw [e1] at h1
        exact sNum_stuck _ _ h1
      | some y =>
        obtain ⟨k, r1⟩ := y
        rw [e1] at h1
        dsimp only at h1 ⊢
        rw [show ((32 : Nat) : Int) = 32 from rfl] at h1
        rw [h1.1, h1.2]
        have h2 := step_num r1
        by_cases hl : 2 ≤ r1.length
        · rw [if_pos hl] at h2 ⊢
          dsimp only
          rw [h2.1, h2.2]
          exact ⟨rfl, rfl, rfl⟩
        · rw [if_neg hl] at h2 ⊢
          exact h2
theorem be_val2 (l : List UInt8) (h : l.length = 2) : be (val l) 2 = l := by
  match l, h with
  | [a, b], _ =>
    have ha := UInt8.toNat_lt a
    have hb := UInt8.toNat_lt b
    show [UInt8.ofNat (val [a, b] / 2 ^ (8 * 1)), UInt8.ofNat (val [a, b] / 2 ^ (8 * 0))] = [a, b]
    have e : val [a, b] = a.toNat * 256 + b.toNat := by simp [val]
    rw [e]
    have e1 : (a.toNat * 256 + b.toNat) / 2 ^ (8 * 1) = a.toNat := by omega
    have e2 : (a.toNat * 256 + b.toNat) / 2 ^ (8 * 0) = a.toNat * 256 + b.toNat := by omega
    rw [e1, e2]
    have e3 : UInt8.ofNat (a.toNat * 256 + b.toNat) = b := by
      apply UInt8.toNat.inj
      rw [UInt8.toNat_ofNat']
      omega
    rw [e3, UInt8.ofNat_toNat]
theorem encKs_snoc2 : ∀ (l : List ByteArray) (m : List Int) (k : ByteArray) (d : Int), m.length = l.length → encKs (l ++ [k]) (m ++ [d]) = encKs l m ++ (strB k.data.toList ++ be d.toNat 2)
  | [], [], k, d, _ => by simp [encKs]
  | x :: l, z :: m, k, d, h => by
    have ih := encKs_snoc2 l m k d (by simpa using h)
    simp only [List.cons_append, encKs, List.append_assoc] at ih ⊢
    rw [ih]
theorem pKsM_some (l : List UInt8) : ∀ j ks ds r, pKsM j l = some (ks, ds, r) → ks.length = j ∧ ds.length = j ∧ l = encKs ks ds ++ r
  | 0, ks, ds, r, h => by
    cases h
    exact ⟨rfl, rfl, rfl⟩
  | j + 1, ks, ds, r, h => by
    unfold pKsM at h
    split at h
    · cases h
    · rename_i ks0 ds0 r0 e0
      split at h
      · cases h
      · rename_i k r1 e1
        split at h
        · rename_i hl
          cases h
          obtain ⟨i1, i2, i3⟩ := pKsM_some l j ks0 ds0 r0 e0
          obtain ⟨a1, a2, a3⟩ := pStrM_some e1
          refine ⟨by rw [List.length_append, i1]; rfl, by rw [List.length_append, i2]; rfl, ?_⟩
          have e2 : be ((val (r1.take 2) : Int)).toNat 2 = r1.take 2 := by
            rw [Int.toNat_natCast]
            exact be_val2 _ (by rw [List.length_take]; omega)
          rw [encKs_snoc2 _ _ _ _ (by omega), e2, i3, a1]
          simp only [List.append_assoc, List.take_append_drop]
        · cases h
theorem pKsM_enc : ∀ (j : Nat) (ks : List ByteArray) (ds : List Int) (r : List UInt8), ks.length = j → ds.length = j → (∀ k ∈ ks, k.size ≤ 32) → (∀ d ∈ ds, 1 ≤ d ∧ d ≤ 65535) → pKsM j (encKs ks ds ++ r) = some (ks, ds, r)
  | 0, ks, ds, r, h, h', _, _ => by
    rw [List.length_eq_zero_iff.1 h, List.length_eq_zero_iff.1 h']
    rfl
  | j + 1, ks, ds, r, h, h', hk, hd => by
    obtain ⟨q, p, rfl, hq⟩ := snoc_of h
    obtain ⟨q', d, rfl, hq'⟩ := snoc_of h'
    have hp := hk p (by simp)
    have h2 : (be d.toNat 2).length = 2 := be_len _ _
    have e : encKs (q ++ [p]) (q' ++ [d]) ++ r = encKs q q' ++ (strB p.data.toList ++ (be d.toNat 2 ++ r)) := by
      rw [encKs_snoc2 _ _ _ _ (by omega)]
      simp only [List.append_assoc]
    have e1 : (be d.toNat 2 ++ r).take 2 = be d.toNat 2 := by
      have := List.take_left (l₁ := be d.toNat 2) (l₂ := r)
      rw [h2] at this
      exact this
    have e2 : (be d.toNat 2 ++ r).drop 2 = r := by
      have := List.drop_left (l₁ := be d.toNat 2) (l₂ := r)
      rw [h2] at this
      exact this
    rw [e]
    unfold pKsM
    rw [pKsM_enc j q q' _ hq hq' (fun x hx => hk x (by simp [hx])) (fun x hx => hd x (by simp [hx]))]
    dsimp only
    rw [pStrM_enc _ _ _ hp (by omega)]
    dsimp only
    rw [if_pos (by rw [List.length_append, h2]; omega), e1, e2, val_be2 d (hd d (by simp))]
/-- Noughts alone. -/
theorem zeros_of (l : List UInt8) (h : ∀ x ∈ l, x = 0) : l = List.replicate l.length 0 := List.eq_replicate_iff.2 ⟨rfl, h⟩
theorem read_iff (s : ByteArray) (n : Nd) : readN s = some n ↔ n.writeE = 0 ∧ mkB n.page = s := by
  constructor
  · intro h
    obtain ⟨h1, h2⟩ := readN_only h
    refine ⟨h1, ?_⟩
    unfold Nd.write at h2
    rw [if_pos h1] at h2
    exact h2
  · rintro ⟨h1, h2⟩
    have := readN_write h1
    unfold Nd.write at this
    rw [if_pos h1, h2] at this
    exact this
theorem mkB_inj {a b : List UInt8} (h : mkB a = mkB b) : a = b := by
  have := congrArg (fun s : ByteArray => s.data.toList) h
  exact this
theorem writeE_of {n : Nd} (hr : n.right = true) (h : n.body.length ≤ 256) : n.writeE = 0 := by
  unfold Nd.writeE
  rw [if_pos hr, if_neg (by rw [← body_len hr]; omega)]
theorem writeE_right {n : Nd} (h : n.writeE = 0) : n.right = true ∧ n.size ≤ 256 := by
  unfold Nd.writeE at h
  split at h
  · rename_i hr
    split at h
    · cases h
    · exact ⟨hr, by omega⟩
  · cases h
theorem read_leaf (c : UInt8) (l : List UInt8) (h : l.length = 254) : readN (mkB (1 :: c :: l)) =
    if (ldS (mkB l, 0) c.toNat).2 = 0 ∧ (⟨true, ldP (mkB l, 0) c.toNat, [], []⟩ : Nd).right = true ∧ (∀ x ∈ (ldS (mkB l, 0) c.toNat).1.data.toList, x = 0) then some ⟨true, ldP (mkB l, 0) c.toNat, [], []⟩ else none := by
  have hsp := ld_spec l c.toNat
  split
  · rename_i hc
    obtain ⟨h1, h2, h3⟩ := hc
    cases e : pPrsM c.toNat l with
    | none => rw [e] at hsp; exact absurd h1 hsp
    | some x =>
      obtain ⟨ps, r⟩ := x
      rw [e] at hsp
      dsimp only at hsp
      rw [hsp.1] at h2 ⊢
      rw [hsp.2] at h3
      obtain ⟨g1, g2⟩ := pPrsM_some l _ _ _ e
      have hz := zeros_of r h3
      rw [read_iff]
      have hb : (⟨true, ps, [], []⟩ : Nd).body = 1 :: c :: encPs ps := by
        show [1, UInt8.ofNat ps.length] ++ encPs ps = _
        rw [g1, UInt8.ofNat_toNat]
        rfl
      have hlen := congrArg List.length g2
      rw [List.length_append, h] at hlen
      refine ⟨writeE_of h2 (by rw [hb]; simp only [List.length_cons]; omega), ?_⟩
      unfold Nd.page
      rw [hb]
      congr 1
      show 1 :: c :: (encPs ps ++ _) = _
      rw [g2, show 256 - (1 :: c :: encPs ps).length = r.length by simp only [List.length_cons]; omega, ← hz]
  · rename_i hc
    cases e : readN (mkB (1 :: c :: l)) with
    | none => rfl
    | some m =>
      exfalso
      obtain ⟨h1, h2⟩ := (read_iff _ _).1 e
      have h3 := mkB_inj h2
      obtain ⟨hr, hsz⟩ := writeE_right h1
      cases hl : m.leaf with
      | false =>
        unfold Nd.page Nd.body at h3
        rw [hl] at h3
        simp only [Bool.false_eq_true, if_false, List.cons_append] at h3
        have := (List.cons.inj h3).1
        cases this
      | true =>
        obtain ⟨a1, a2, a3, a4⟩ := right_leaf hr hl
        have hps := right_ps hr hl
        have hlen : m.ps.length ≤ 255 := by
          have := sum_ge m.ps (fun p hp => (hps p hp).1.1)
          unfold Nd.size at hsz
          rw [hl, if_pos rfl] at hsz
          omega
        have hm : m = ⟨true, m.ps, [], []⟩ := by
          cases m
          dsimp only at *
          subst a2 a3 hl
          rfl
        have hpg : m.page = 1 :: UInt8.ofNat m.ps.length :: (encPs m.ps ++ List.replicate (256 - m.body.length) 0) := by
          unfold Nd.page
          conv => lhs; arg 1; unfold Nd.body
          rw [hl, if_pos rfl]
          rfl
        rw [hpg] at h3
        have h4 := (List.cons.inj (List.cons.inj h3).2).1
        have h5 := (List.cons.inj (List.cons.inj h3).2).2
        have eb : c.toNat = m.ps.length := by
          rw [← h4, UInt8.toNat_ofNat']
          exact Nat.mod_eq_of_lt (by omega)
        have hp := pPrsM_enc c.toNat m.ps (List.replicate (256 - m.body.length) 0) eb.symm (fun p hp => ⟨(hps p hp).1.2, (hps p hp).2⟩)
        rw [h5] at hp
        rw [hp] at hsp
        dsimp only at hsp
        refine hc ⟨by rw [hsp.2], ?_, ?_⟩
        · rw [hsp.1, ← hm]; exact hr
        · rw [hsp.2]
          intro x hx
          exact (List.mem_replicate.1 hx).2
theorem read_inner (c : UInt8) (l : List UInt8) (h : l.length = 254) : readN (mkB (2 :: c :: l)) =
    if (ndS (sNum (mkB l, 0) 2) c.toNat).2 = 0 ∧ (⟨false, [], ndK (sNum (mkB l, 0) 2) c.toNat, (gNum (mkB l, 0) 2 : Int) :: ndD (sNum (mkB l, 0) 2) c.toNat⟩ : Nd).right = true ∧ (∀ x ∈ (ndS (sNum (mkB l, 0) 2) c.toNat).1.data.toList, x = 0) then some ⟨false, [], ndK (sNum (mkB l, 0) 2) c.toNat, (gNum (mkB l, 0) 2 : Int) :: ndD (sNum (mkB l, 0) 2) c.toNat⟩ else none := by
  have hs2 := step_num l
  rw [if_pos (by omega)] at hs2
  rw [hs2.1, hs2.2]
  have hsp := nd_spec (l.drop 2) c.toNat
  split
  · rename_i hc
    obtain ⟨h1, h2, h3⟩ := hc
    cases e : pKsM c.toNat (l.drop 2) with
    | none => rw [e] at hsp; exact absurd h1 hsp
    | some x =>
      obtain ⟨ks, ds, r⟩ := x
      rw [e] at hsp
      dsimp only at hsp
      rw [hsp.1, hsp.2.1] at h2 ⊢
      rw [hsp.2.2] at h3
      obtain ⟨g1, g2, g3⟩ := pKsM_some _ _ _ _ _ e
      have hz := zeros_of r h3
      rw [read_iff]
      have hb : (⟨false, [], ks, (val (l.take 2) : Int) :: ds⟩ : Nd).body = 2 :: c :: (l.take 2 ++ encKs ks ds) := by
        show [2, UInt8.ofNat ks.length] ++ be ((val (l.take 2) : Int)).toNat 2 ++ encKs ks ds = _
        rw [g1, UInt8.ofNat_toNat, Int.toNat_natCast, be_val2 _ (by rw [List.length_take]; omega)]
        rfl
      have hlen := congrArg List.length g3
      rw [List.length_append, List.length_drop, h] at hlen
      have htk : (l.take 2).length = 2 := by rw [List.length_take]; omega
      refine ⟨writeE_of h2 (by rw [hb]; simp only [List.length_cons, List.length_append, htk]; omega), ?_⟩
      unfold Nd.page
      rw [hb]
      congr 1
      show 2 :: c :: ((l.take 2 ++ encKs ks ds) ++ _) = _
      rw [show 256 - (2 :: c :: (l.take 2 ++ encKs ks ds)).length = r.length by simp only [List.length_cons, List.length_append, htk]; omega, ← hz, List.append_assoc, ← g3, List.take_append_drop]
  · rename_i hc
    cases e : readN (mkB (2 :: c :: l)) with
    | none => rfl
    | some m =>
      exfalso
      obtain ⟨h1, h2⟩ := (read_iff _ _).1 e
      have h3 := mkB_inj h2
      obtain ⟨hr, hsz⟩ := writeE_right h1
      cases hl : m.leaf with
      | true =>
        unfold Nd.page Nd.body at h3
        rw [hl, if_pos rfl] at h3
        simp only [List.cons_append] at h3
        have := (List.cons.inj h3).1
        cases this
      | false =>
        obtain ⟨a1, a2, a3, a4⟩ := right_inner hr hl
        have hks := ordN_mem a4
        have hlen : m.ks.length ≤ 255 := by
          have := sumK_ge m.ks (fun k hk => (hks k hk).1)
          unfold Nd.size at hsz
          rw [hl] at hsz
          simp only [Bool.false_eq_true, if_false] at hsz
          omega
        obtain ⟨d, ds, hkd⟩ : ∃ d m', m.kd = d :: m' := by
          cases hk : m.kd with
          | nil => rw [hk] at a3; simp at a3
          | cons d m' => exact ⟨d, m', rfl⟩
        rw [hkd] at a1 a3
        have hm : m = ⟨false, [], m.ks, d :: ds⟩ := by
          cases m
          dsimp only at *
          subst a2 hl hkd
          rfl
        have hpg : m.page = 2 :: UInt8.ofNat m.ks.length :: (be d.toNat 2 ++ (encKs m.ks ds ++ List.replicate (256 - m.body.length) 0)) := by
          unfold Nd.page
          conv => lhs; arg 1; unfold Nd.body
          rw [hl, hkd]
          simp only [Bool.false_eq_true, if_false, List.headD_cons, List.tail_cons, List.append_assoc, List.cons_append, List.nil_append]
        rw [hpg] at h3
        have h4 := (List.cons.inj (List.cons.inj h3).2).1
        have h5 := (List.cons.inj (List.cons.inj h3).2).2
        have eb : c.toNat = m.ks.length := by
          rw [← h4, UInt8.toNat_ofNat']
          exact Nat.mod_eq_of_lt (by omega)
        have h2' : (be d.toNat 2).length = 2 := be_len _ _
        have e1 : l.take 2 = be d.toNat 2 := by
          rw [← h5]
          have := List.take_left (l₁ := be d.toNat 2) (l₂ := encKs m.ks ds ++ List.replicate (256 - m.body.length) 0)
          rw [h2'] at this
          exact this
        have e2 : l.drop 2 = encKs m.ks ds ++ List.replicate (256 - m.body.length) 0 := by
          rw [← h5]
          have := List.drop_left (l₁ := be d.toNat 2) (l₂ := encKs m.ks ds ++ List.replicate (256 - m.body.length) 0)
          rw [h2'] at this
          exact this
        simp only [List.length_cons] at a3
        have hp := pKsM_enc c.toNat m.ks ds (List.replicate (256 - m.body.length) 0) eb.symm (by omega) (fun k hk => (hks k hk).2) (fun z hz => a1 z (List.mem_cons_of_mem _ hz))
        rw [e2] at hsp hc
        rw [hp] at hsp
        dsimp only at hsp
        refine hc ⟨by rw [hsp.2.2], ?_, ?_⟩
        · rw [hsp.1, hsp.2.1, e1, val_be2 d (a1 d List.mem_cons_self), ← hm]; exact hr
        · rw [hsp.2.2]
          intro x hx
          exact (List.mem_replicate.1 hx).2
theorem read_none (s : ByteArray) (h : s.size ≠ 256 ∨ ∃ a l, s = mkB (a :: l) ∧ a ≠ 1 ∧ a ≠ 2) : readN s = none := by
  cases e : readN s with
  | none => rfl
  | some m =>
    exfalso
    obtain ⟨h1, h2⟩ := (read_iff _ _).1 e
    rcases h with h | ⟨a, l, rfl, h3, h4⟩
    · apply h
      rw [← h2, mkB_size, page_len h1]
    · have h5 := mkB_inj h2
      unfold Nd.page Nd.body at h5
      cases hl : m.leaf with
      | true =>
        rw [hl, if_pos rfl] at h5
        simp only [List.cons_append] at h5
        exact h3 (List.cons.inj h5).1.symm
      | false =>
        rw [hl] at h5
        simp only [Bool.false_eq_true, if_false, List.cons_append] at h5
        exact h4 (List.cons.inj h5).1.symm

end Go.Proofs.YtponhibiomcidaaDoor
