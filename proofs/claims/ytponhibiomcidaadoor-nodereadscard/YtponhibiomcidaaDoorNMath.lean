/- Nodes of a tree as bytes: which may be, their size, their page, and back: plain mathematics, nothing of the program. Conditions: those that each theorem states. -/
import Derived.Test.YtponhibiomcidaaDoorJB
namespace Go.Proofs.YtponhibiomcidaaDoor
set_option linter.unusedVariables false

/-- A text is ahead of another one. -/
def lessB (a b : ByteArray) : Bool := Op.bytesLess a.data.toList b.data.toList
theorem bl_irrefl : ∀ a : List UInt8, Op.bytesLess a a = false
  | [] => rfl
  | x :: a => by simp [Op.bytesLess, bl_irrefl a]
theorem bl_trans : ∀ a b c : List UInt8, Op.bytesLess a b = true → Op.bytesLess b c = true → Op.bytesLess a c = true
  | _, _, [], _, h => by simp [Op.bytesLess] at h
  | [], _, _ :: _, _, _ => rfl
  | _ :: _, [], _ :: _, h, _ => by simp [Op.bytesLess] at h
  | x :: a, y :: b, z :: c, h, h' => by
    simp only [Op.bytesLess, Bool.or_eq_true, decide_eq_true_eq, Bool.and_eq_true, beq_iff_eq] at h h' ⊢
    rcases h with h | ⟨h1, h2⟩
    · rcases h' with h' | ⟨h3, h4⟩
      · exact .inl (UInt8.lt_trans h h')
      · subst h3; exact .inl h
    · subst h1
      rcases h' with h' | ⟨h3, h4⟩
      · exact .inl h'
      · exact .inr ⟨h3, bl_trans a b c h2 h4⟩
theorem bl_total : ∀ a b : List UInt8, Op.bytesLess a b = false → Op.bytesLess b a = false → a = b
  | [], [], _, _ => rfl
  | [], _ :: _, h, _ => by simp [Op.bytesLess] at h
  | _ :: _, [], _, h => by simp [Op.bytesLess] at h
  | x :: a, y :: b, h, h' => by
    simp only [Op.bytesLess, Bool.or_eq_false_iff, decide_eq_false_iff_not, Bool.and_eq_false_iff, beq_eq_false_iff_ne] at h h'
    have hxy : x = y := by
      have h1 := h.1
      have h2 := h'.1
      exact UInt8.le_antisymm (UInt8.not_lt.1 h2) (UInt8.not_lt.1 h1)
    subst hxy
    have e1 : Op.bytesLess a b = false := by rcases h.2 with e | e; exact absurd rfl e; exact e
    have e2 : Op.bytesLess b a = false := by rcases h'.2 with e | e; exact absurd rfl e; exact e
    rw [bl_total a b e1 e2]
theorem lessB_irrefl (a : ByteArray) : lessB a a = false := bl_irrefl _
theorem lessB_trans {a b c : ByteArray} (h : lessB a b = true) (h' : lessB b c = true) : lessB a c = true := bl_trans _ _ _ h h'
theorem lessB_total {a b : ByteArray} (h : lessB a b = false) (h' : lessB b a = false) : a = b := by
  have e := bl_total _ _ h h'
  cases a
  cases b
  simp at e
  rw [e]
theorem lessB_asym {a b : ByteArray} (h : lessB a b = true) : lessB b a = false := by
  cases e : lessB b a with
  | false => rfl
  | true => have := lessB_trans h e; rw [lessB_irrefl] at this; cases this
/-- A pair; a node. -/
structure Pr where
  k : ByteArray
  v : ByteArray
structure Nd where
  leaf : Bool
  ps : List Pr
  ks : List ByteArray
  kd : List Int
def Pr.size (p : Pr) : Nat := 2 + p.k.size + p.v.size
def kSize (k : ByteArray) : Nat := 3 + k.size
def Nd.size (n : Nd) : Nat := if n.leaf then 2 + (n.ps.map Pr.size).sum else 4 + (n.ks.map kSize).sum
/-- Keys as they may be. -/
def okKey (k : ByteArray) : Bool := decide (1 ≤ k.size ∧ k.size ≤ 32)
def chainB : List ByteArray → Bool
  | [] => true
  | [_] => true
  | a :: b :: l => lessB a b && chainB (b :: l)
def ordN (l : List ByteArray) : Bool := l.all okKey && chainB l
def okD (z : Int) : Bool := decide (1 ≤ z ∧ z ≤ 65535)
def Nd.right (n : Nd) : Bool := if n.leaf then n.ps.all (fun p => decide (p.v.size ≤ 40)) && (n.ks.isEmpty && n.kd.isEmpty && ordN (n.ps.map Pr.k)) else n.kd.all okD && (n.ps.isEmpty && decide (n.kd.length = n.ks.length + 1) && ordN n.ks)
/-- A node's bytes, and noughts behind. -/
def encPr (p : Pr) : List UInt8 := strB p.k.data.toList ++ strB p.v.data.toList
def encPs (l : List Pr) : List UInt8 := l.flatMap encPr
def encKs : List ByteArray → List Int → List UInt8
  | k :: l, d :: m => strB k.data.toList ++ be d.toNat 2 ++ encKs l m
  | _, _ => []
def Nd.body (n : Nd) : List UInt8 := if n.leaf then [1, UInt8.ofNat n.ps.length] ++ encPs n.ps else [2, UInt8.ofNat n.ks.length] ++ be (n.kd.headD 0).toNat 2 ++ encKs n.ks n.kd.tail
def Nd.page (n : Nd) : List UInt8 := n.body ++ List.replicate (256 - n.body.length) 0
def Nd.writeE (n : Nd) : Int := if n.right then (if 256 < n.size then 3 else 0) else 4
def Nd.write (n : Nd) : ByteArray := if n.writeE = 0 then mkB n.page else mkB []
theorem strB_short (l : List UInt8) (h : l.length ≤ 255) : strB l = UInt8.ofNat l.length :: l := by
  unfold strB
  rw [Nat.min_eq_left h, List.take_of_length_le h]
theorem strB_len' (l : List UInt8) (h : l.length ≤ 255) : (strB l).length = 1 + l.length := by
  rw [strB_short l h, List.length_cons]
  omega
theorem size_list (s : ByteArray) : s.data.toList.length = s.size := by rw [Array.length_toList]; rfl
theorem encPr_len (p : Pr) (hk : p.k.size ≤ 255) (hv : p.v.size ≤ 255) : (encPr p).length = p.size := by
  unfold encPr Pr.size
  rw [List.length_append, strB_len' _ (by rw [size_list]; exact hk), strB_len' _ (by rw [size_list]; exact hv), size_list, size_list]
  omega
theorem encPs_len (l : List Pr) (h : ∀ p ∈ l, p.k.size ≤ 255 ∧ p.v.size ≤ 255) : (encPs l).length = (l.map Pr.size).sum := by
  induction l with
  | nil => rfl
  | cons p l ih =>
    have hp := h p List.mem_cons_self
    show (encPr p ++ encPs l).length = Pr.size p + (l.map Pr.size).sum
    rw [List.length_append, encPr_len p hp.1 hp.2, ih (fun q hq => h q (List.mem_cons_of_mem _ hq))]
theorem encKs_len : ∀ (l : List ByteArray) (m : List Int), m.length = l.length → (∀ k ∈ l, k.size ≤ 255) → (encKs l m).length = (l.map kSize).sum
  | [], [], _, _ => rfl
  | k :: l, d :: m, h, hk => by
    have h1 := hk k List.mem_cons_self
    show (strB k.data.toList ++ be d.toNat 2 ++ encKs l m).length = kSize k + (l.map kSize).sum
    rw [List.length_append, List.length_append, strB_len' _ (by rw [size_list]; exact h1), be_len, size_list, encKs_len l m (by simpa using h) (fun q hq => hk q (List.mem_cons_of_mem _ hq))]
    unfold kSize
    omega
/-- What Right says, part by part. -/
theorem right_leaf {n : Nd} (h : n.right = true) (hl : n.leaf = true) : (∀ p ∈ n.ps, p.v.size ≤ 40) ∧ n.ks = [] ∧ n.kd = [] ∧ ordN (n.ps.map Pr.k) = true := by
  unfold Nd.right at h
  rw [if_pos hl] at h
  simp only [Bool.and_eq_true, List.all_eq_true, decide_eq_true_eq, List.isEmpty_iff] at h
  exact ⟨h.1, h.2.1.1, h.2.1.2, h.2.2⟩
theorem right_inner {n : Nd} (h : n.right = true) (hl : n.leaf = false) : (∀ d ∈ n.kd, 1 ≤ d ∧ d ≤ 65535) ∧ n.ps = [] ∧ n.kd.length = n.ks.length + 1 ∧ ordN n.ks = true := by
  unfold Nd.right at h
  rw [hl] at h
  simp only [Bool.false_eq_true, if_false, Bool.and_eq_true, List.all_eq_true, decide_eq_true_eq, List.isEmpty_iff, okD] at h
  exact ⟨h.1, h.2.1.1, h.2.1.2, h.2.2⟩
theorem ordN_mem {l : List ByteArray} (h : ordN l = true) : ∀ k ∈ l, 1 ≤ k.size ∧ k.size ≤ 32 := by
  unfold ordN at h
  simp only [Bool.and_eq_true, List.all_eq_true, okKey, decide_eq_true_eq] at h
  exact h.1
theorem ordN_chain {l : List ByteArray} (h : ordN l = true) : chainB l = true := by
  unfold ordN at h
  simp only [Bool.and_eq_true] at h
  exact h.2
theorem right_ps {n : Nd} (h : n.right = true) (hl : n.leaf = true) : ∀ p ∈ n.ps, (1 ≤ p.k.size ∧ p.k.size ≤ 32) ∧ p.v.size ≤ 40 := fun p hp =>
  ⟨ordN_mem (right_leaf h hl).2.2.2 p.k (List.mem_map_of_mem hp), (right_leaf h hl).1 p hp⟩
theorem body_len {n : Nd} (h : n.right = true) : n.body.length = n.size := by
  unfold Nd.body Nd.size
  cases hl : n.leaf with
  | true =>
    rw [if_pos rfl, if_pos rfl, List.length_append, encPs_len _ (fun p hp => by have := right_ps h hl p hp; omega)]
    rfl
  | false =>
    obtain ⟨h1, h2, h3, h4⟩ := right_inner h hl
    simp only [Bool.false_eq_true, if_false]
    rw [List.length_append, List.length_append, be_len, encKs_len _ _ (by rw [List.length_tail]; omega) (fun k hk => by have := ordN_mem h4 k hk; omega)]
    rfl
theorem page_len {n : Nd} (h : n.writeE = 0) : n.page.length = 256 := by
  unfold Nd.writeE at h
  split at h
  · rename_i hr
    split at h
    · cases h
    · unfold Nd.page
      have := body_len hr
      rw [List.length_append, List.length_replicate]
      omega
  · cases h
/-- How many pairs, and keys, fit. -/
theorem sum_ge (l : List Pr) (h : ∀ p ∈ l, 1 ≤ p.k.size) : 3 * l.length ≤ (l.map Pr.size).sum := by
  induction l with
  | nil => simp
  | cons p l ih =>
    have h1 := h p List.mem_cons_self
    have h2 := ih (fun q hq => h q (List.mem_cons_of_mem _ hq))
    show 3 * (l.length + 1) ≤ Pr.size p + (l.map Pr.size).sum
    unfold Pr.size at *
    omega
theorem sumK_ge (l : List ByteArray) (h : ∀ k ∈ l, 1 ≤ k.size) : 4 * l.length ≤ (l.map kSize).sum := by
  induction l with
  | nil => simp
  | cons p l ih =>
    have h1 := h p List.mem_cons_self
    have h2 := ih (fun q hq => h q (List.mem_cons_of_mem _ hq))
    show 4 * (l.length + 1) ≤ kSize p + (l.map kSize).sum
    unfold kSize at *
    omega
/-- Reading: a text, pairs, keys with kids, a node. -/
def pStr : List UInt8 → Option (ByteArray × List UInt8)
  | c :: r => if c.toNat ≤ r.length then some (mkB (r.take c.toNat), r.drop c.toNat) else none
  | [] => none
def pPrs : Nat → List UInt8 → Option (List Pr × List UInt8)
  | 0, l => some ([], l)
  | n + 1, l => match pStr l with
    | none => none
    | some (k, l1) => match pStr l1 with
      | none => none
      | some (v, l2) => match pPrs n l2 with
        | none => none
        | some (ps, l3) => some (⟨k, v⟩ :: ps, l3)
def pKs : Nat → List UInt8 → Option (List ByteArray × List Int × List UInt8)
  | 0, l => some ([], [], l)
  | n + 1, l => match pStr l with
    | none => none
    | some (k, l1) => if l1.length < 2 then none else match pKs n (l1.drop 2) with
      | none => none
      | some (ks, ds, l3) => some (k :: ks, (val (l1.take 2) : Int) :: ds, l3)
def pNd : List UInt8 → Option Nd
  | a :: b :: l => if a = 1 then (match pPrs b.toNat l with
      | none => none
      | some (ps, _) => some ⟨true, ps, [], []⟩) else if l.length < 2 then none else (match pKs b.toNat (l.drop 2) with
      | none => none
      | some (ks, ds, _) => some ⟨false, [], ks, (val (l.take 2) : Int) :: ds⟩)
  | _ => none
theorem pStr_enc (s : ByteArray) (r : List UInt8) (h : s.size ≤ 255) : pStr (strB s.data.toList ++ r) = some (s, r) := by
  have hl := size_list s
  rw [strB_short _ (by omega), List.cons_append]
  unfold pStr
  have e : (UInt8.ofNat s.data.toList.length).toNat = s.data.toList.length := by
    rw [UInt8.toNat_ofNat']
    exact Nat.mod_eq_of_lt (by omega)
  simp only [e]
  rw [if_pos (by rw [List.length_append]; omega), List.take_left, List.drop_left, mkB_self]
theorem pPrs_enc (l : List Pr) (r : List UInt8) (h : ∀ p ∈ l, p.k.size ≤ 255 ∧ p.v.size ≤ 255) : pPrs l.length (encPs l ++ r) = some (l, r) := by
  induction l with
  | nil => rfl
  | cons p l ih =>
    have hp := h p List.mem_cons_self
    have e : encPs (p :: l) ++ r = strB p.k.data.toList ++ (strB p.v.data.toList ++ (encPs l ++ r)) := by
      show (encPr p ++ encPs l) ++ r = _
      unfold encPr
      simp only [List.append_assoc]
    rw [e]
    show pPrs (l.length + 1) _ = _
    unfold pPrs
    rw [pStr_enc _ _ hp.1]
    dsimp only
    rw [pStr_enc _ _ hp.2]
    dsimp only
    rw [ih (fun q hq => h q (List.mem_cons_of_mem _ hq))]
theorem val_be2 (d : Int) (h : 1 ≤ d ∧ d ≤ 65535) : (val (be d.toNat 2) : Int) = d := by
  rw [val_be]
  have : d.toNat % 2 ^ (8 * 2) = d.toNat := Nat.mod_eq_of_lt (by omega)
  omega
theorem pKs_enc : ∀ (l : List ByteArray) (m : List Int) (r : List UInt8), m.length = l.length → (∀ k ∈ l, k.size ≤ 255) → (∀ d ∈ m, 1 ≤ d ∧ d ≤ 65535) → pKs l.length (encKs l m ++ r) = some (l, m, r)
  | [], [], r, _, _, _ => rfl
  | k :: l, d :: m, r, h, hk, hd => by
    have e : encKs (k :: l) (d :: m) ++ r = strB k.data.toList ++ (be d.toNat 2 ++ (encKs l m ++ r)) := by
      show (strB k.data.toList ++ be d.toNat 2 ++ encKs l m) ++ r = _
      simp only [List.append_assoc]
    have h2 : (be d.toNat 2).length = 2 := be_len _ _
    rw [e]
    show pKs (l.length + 1) _ = _
    unfold pKs
    rw [pStr_enc _ _ (hk k List.mem_cons_self)]
    dsimp only
    rw [if_neg (by rw [List.length_append, h2]; omega)]
    have e1 : (be d.toNat 2 ++ (encKs l m ++ r)).take 2 = be d.toNat 2 := by
      have := List.take_left (l₁ := be d.toNat 2) (l₂ := encKs l m ++ r)
      rw [h2] at this
      exact this
    have e2 : (be d.toNat 2 ++ (encKs l m ++ r)).drop 2 = encKs l m ++ r := by
      have := List.drop_left (l₁ := be d.toNat 2) (l₂ := encKs l m ++ r)
      rw [h2] at this
      exact this
    rw [e1, e2, pKs_enc l m r (by simpa using h) (fun q hq => hk q (List.mem_cons_of_mem _ hq)) (fun q hq => hd q (List.mem_cons_of_mem _ hq)), val_be2 d (hd d List.mem_cons_self)]
/-- There and back. -/
theorem pNd_page {n : Nd} (h : n.writeE = 0) : pNd n.page = some n := by
  have hr : n.right = true := by
    unfold Nd.writeE at h
    split at h
    · assumption
    · cases h
  have hs : n.size ≤ 256 := by
    unfold Nd.writeE at h
    rw [if_pos hr] at h
    split at h
    · cases h
    · omega
  unfold Nd.page
  generalize List.replicate (256 - n.body.length) (0 : UInt8) = z
  unfold Nd.body
  cases hl : n.leaf with
  | true =>
    obtain ⟨h1, h2, h3, h4⟩ := right_leaf hr hl
    have hps := right_ps hr hl
    have hlen : n.ps.length ≤ 255 := by
      have := sum_ge n.ps (fun p hp => (hps p hp).1.1)
      unfold Nd.size at hs
      rw [hl, if_pos rfl] at hs
      omega
    have eb : (UInt8.ofNat n.ps.length).toNat = n.ps.length := by
      rw [UInt8.toNat_ofNat']
      exact Nat.mod_eq_of_lt (by omega)
    show pNd (1 :: UInt8.ofNat n.ps.length :: (encPs n.ps ++ z)) = _
    unfold pNd
    dsimp only
    rw [if_pos rfl, eb, pPrs_enc _ _ (fun p hp => by have := hps p hp; omega)]
    cases n
    dsimp only at *
    subst h2 h3 hl
    rfl
  | false =>
    obtain ⟨h1, h2, h3, h4⟩ := right_inner hr hl
    have hks := ordN_mem h4
    have hlen : n.ks.length ≤ 255 := by
      have := sumK_ge n.ks (fun k hk => (hks k hk).1)
      unfold Nd.size at hs
      rw [hl] at hs
      simp only [Bool.false_eq_true, if_false] at hs
      omega
    have eb : (UInt8.ofNat n.ks.length).toNat = n.ks.length := by
      rw [UInt8.toNat_ofNat']
      exact Nat.mod_eq_of_lt (by omega)
    obtain ⟨d, m, hkd⟩ : ∃ d m, n.kd = d :: m := by
      cases hk : n.kd with
      | nil => rw [hk] at h3; simp at h3
      | cons d m => exact ⟨d, m, rfl⟩
    have h2' : (be d.toNat 2).length = 2 := be_len _ _
    simp only [Bool.false_eq_true, if_false]
    rw [hkd] at h1 h3 ⊢
    show pNd (([2, UInt8.ofNat n.ks.length] ++ be d.toNat 2 ++ encKs n.ks m) ++ z) = _
    have e : ([2, UInt8.ofNat n.ks.length] ++ be d.toNat 2 ++ encKs n.ks m) ++ z = 2 :: UInt8.ofNat n.ks.length :: (be d.toNat 2 ++ (encKs n.ks m ++ z)) := by
      simp only [List.append_assoc, List.cons_append, List.nil_append]
    rw [e]
    unfold pNd
    have e1 : (be d.toNat 2 ++ (encKs n.ks m ++ z)).take 2 = be d.toNat 2 := by
      have := List.take_left (l₁ := be d.toNat 2) (l₂ := encKs n.ks m ++ z)
      rw [h2'] at this
      exact this
    have e2 : (be d.toNat 2 ++ (encKs n.ks m ++ z)).drop 2 = encKs n.ks m ++ z := by
      have := List.drop_left (l₁ := be d.toNat 2) (l₂ := encKs n.ks m ++ z)
      rw [h2'] at this
      exact this
    dsimp only
    rw [if_neg (by decide), if_neg (by rw [List.length_append, h2']; omega), e1, e2, eb, pKs_enc _ _ _ (by simpa using h3) (fun k hk => by have := hks k hk; omega) (fun q hq => h1 q (List.mem_cons_of_mem _ hq)), val_be2 d (h1 d List.mem_cons_self)]
    dsimp only
    cases n
    dsimp only at *
    subst h2 hl hkd
    rfl
/-- What Read tells. -/
def readN (s : ByteArray) : Option Nd := match pNd s.data.toList with
  | none => none
  | some n => if n.writeE = 0 ∧ mkB n.page = s then some n else none
theorem readN_write {n : Nd} (h : n.writeE = 0) : readN n.write = some n := by
  unfold readN Nd.write
  rw [if_pos h, mkB_list, pNd_page h]
  dsimp only
  rw [if_pos ⟨h, rfl⟩]
theorem readN_only {s : ByteArray} {n : Nd} (h : readN s = some n) : n.writeE = 0 ∧ n.write = s := by
  unfold readN at h
  split at h
  · cases h
  · split at h
    · rename_i hc
      cases h
      refine ⟨hc.1, ?_⟩
      unfold Nd.write
      rw [if_pos hc.1]
      exact hc.2
    · cases h

end Go.Proofs.YtponhibiomcidaaDoor
