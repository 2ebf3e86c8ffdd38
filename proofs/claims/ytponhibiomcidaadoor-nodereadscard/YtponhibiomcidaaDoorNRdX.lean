/- Reading a node's page as the document's Read does: what the states of its reader tell, and which node is told: plain mathematics, nothing of the program. Conditions: those that each theorem states. -/
import Derived.Test.YtponhibiomcidaaDoorNRdM
namespace Go.Proofs.YtponhibiomcidaaDoor
set_option linter.unusedVariables false

def xlS (r : Rst) : Nat → Rst
  | 0 => r
  | j + 1 => sStr (sStr (xlS r j) 255) 255
def xlP (r : Rst) : Nat → List Pr
  | 0 => []
  | j + 1 => xlP r j ++ [⟨gStr (xlS r j) 255, gStr (sStr (xlS r j) 255) 255⟩]
def xnS (r : Rst) : Nat → Rst
  | 0 => r
  | j + 1 => sNum (sStr (xnS r j) 255) 2
def xnK (r : Rst) : Nat → List ByteArray
  | 0 => []
  | j + 1 => xnK r j ++ [gStr (xnS r j) 255]
def xnD (r : Rst) : Nat → List Int
  | 0 => []
  | j + 1 => xnD r j ++ [(gNum (sStr (xnS r j) 255) 2 : Int)]
theorem xlP_len (r : Rst) : ∀ j, (xlP r j).length = j
  | 0 => rfl
  | j + 1 => by rw [xlP, List.length_append, xlP_len r j]; rfl
theorem xnK_len (r : Rst) : ∀ j, (xnK r j).length = j
  | 0 => rfl
  | j + 1 => by rw [xnK, List.length_append, xnK_len r j]; rfl
theorem xnD_len (r : Rst) : ∀ j, (xnD r j).length = j
  | 0 => rfl
  | j + 1 => by rw [xnD, List.length_append, xnD_len r j]; rfl
theorem xlP_mem (r : Rst) : ∀ j, ∀ p ∈ xlP r j, p.k.size ≤ 255 ∧ p.v.size ≤ 255
  | 0, p, h => by simp [xlP] at h
  | j + 1, p, h => by
    rcases List.mem_append.1 h with h | h
    · exact xlP_mem r j p h
    · rw [List.mem_singleton.1 h]; exact ⟨gStr_size _ _, gStr_size _ _⟩
theorem xnK_mem (r : Rst) : ∀ j, ∀ p ∈ xnK r j, p.size ≤ 255
  | 0, p, h => by simp [xnK] at h
  | j + 1, p, h => by
    rcases List.mem_append.1 h with h | h
    · exact xnK_mem r j p h
    · rw [List.mem_singleton.1 h]; exact gStr_size _ _
theorem xnD_mem (r : Rst) : ∀ j, ∀ d ∈ xnD r j, 0 ≤ d ∧ d < 65536
  | 0, p, h => by simp [xnD] at h
  | j + 1, p, h => by
    rcases List.mem_append.1 h with h | h
    · exact xnD_mem r j p h
    · rw [List.mem_singleton.1 h]
      have := gNum_lt (sStr (xnS r j) 255)
      omega
theorem xlS_stuck (r : Rst) (j : Nat) (h : (xlS r j).2 ≠ 0) : ∀ m, (xlS r (j + m)).2 ≠ 0
  | 0 => h
  | m + 1 => sStr_stuck _ _ (sStr_stuck _ _ (xlS_stuck r j h m))
theorem xnS_stuck (r : Rst) (j : Nat) (h : (xnS r j).2 ≠ 0) : ∀ m, (xnS r (j + m)).2 ≠ 0
  | 0 => h
  | m + 1 => sNum_stuck _ _ (sStr_stuck _ _ (xnS_stuck r j h m))
theorem xstr (k : ByteArray) (q : List UInt8) (h : k.size ≤ 255) : sStr (mkB (strB k.data.toList ++ q), 0) 255 = (mkB q, 0) ∧ gStr (mkB (strB k.data.toList ++ q), 0) 255 = k := by
  obtain ⟨h1, h2, h3⟩ := str_app k.data.toList q
  unfold sStr gStr
  dsimp only
  rw [h1, h2, h3, List.take_of_length_le (by rw [size_list]; exact h), mkB_self]
  exact ⟨rfl, rfl⟩
theorem xnum2 (d : Nat) (q : List UInt8) (h : d < 65536) : sNum (mkB (be d 2 ++ q), 0) 2 = (mkB q, 0) ∧ gNum (mkB (be d 2 ++ q), 0) 2 = d := by
  have hw : wid 2 = 2 := rfl
  have h1 := raw_app (be d 2) q
  rw [be_len] at h1
  unfold sNum gNum
  rw [hw]
  dsimp only
  rw [h1.1, h1.2.1, h1.2.2, mkB_list, val_be]
  exact ⟨rfl, Nat.mod_eq_of_lt (by omega)⟩
theorem xnum1 (c : UInt8) (q : List UInt8) : sNum (mkB (c :: q), 0) 1 = (mkB q, 0) ∧ gNum (mkB (c :: q), 0) 1 = c.toNat := by
  have hw : wid 1 = 1 := rfl
  have h1 := raw_app [c] q
  simp only [List.length_cons, List.length_nil, List.cons_append, List.nil_append, Nat.zero_add] at h1
  unfold sNum gNum
  rw [hw]
  dsimp only
  rw [h1.1, h1.2.1, h1.2.2, mkB_list]
  refine ⟨rfl, ?_⟩
  simp [val]
theorem gNum1_lt (r : Rst) : gNum r 1 < 256 := by
  unfold gNum
  have hw : wid 1 = 1 := rfl
  rw [hw]
  have h1 := rawR_size r.1 r.2 ((1 : Nat) : Int)
  have h2 : (rawR r.1 r.2 ((1 : Nat) : Int)).data.toList.length ≤ 1 := by rw [size_list]; omega
  match h3 : (rawR r.1 r.2 ((1 : Nat) : Int)).data.toList, h2 with
  | [], _ => simp [val]
  | [c], _ => have := c.toNat_lt; simp [val]; omega
  | _ :: _ :: _, h => simp at h
theorem xl_enc : ∀ (j : Nat) (ps : List Pr) (q : List UInt8), ps.length = j → (∀ p ∈ ps, p.k.size ≤ 255 ∧ p.v.size ≤ 255) → xlS (mkB (encPs ps ++ q), 0) j = (mkB q, 0) ∧ xlP (mkB (encPs ps ++ q), 0) j = ps
  | 0, ps, q, h, _ => by
    obtain rfl := List.eq_nil_of_length_eq_zero h
    exact ⟨rfl, rfl⟩
  | j + 1, ps, q, h, hm => by
    obtain ⟨l, p, rfl, hl⟩ := snoc_of h
    have hp := hm p (by simp)
    obtain ⟨h1, h2⟩ := xl_enc j l (encPr p ++ q) hl (fun x hx => hm x (by simp [hx]))
    rw [encPs_snoc, List.append_assoc]
    rw [xlS, xlP, h1, h2]
    unfold encPr
    rw [List.append_assoc]
    obtain ⟨a1, a2⟩ := xstr p.k (strB p.v.data.toList ++ q) hp.1
    obtain ⟨b1, b2⟩ := xstr p.v q hp.2
    rw [a1, a2, b1, b2]
    exact ⟨rfl, rfl⟩
theorem xn_enc : ∀ (j : Nat) (ks : List ByteArray) (ds : List Int) (q : List UInt8), ks.length = j → ds.length = j → (∀ k ∈ ks, k.size ≤ 255) → (∀ d ∈ ds, 1 ≤ d ∧ d ≤ 65535) → xnS (mkB (encKs ks ds ++ q), 0) j = (mkB q, 0) ∧ xnK (mkB (encKs ks ds ++ q), 0) j = ks ∧ xnD (mkB (encKs ks ds ++ q), 0) j = ds
  | 0, ks, ds, q, h, h', _, _ => by
    obtain rfl := List.eq_nil_of_length_eq_zero h
    obtain rfl := List.eq_nil_of_length_eq_zero h'
    exact ⟨rfl, rfl, rfl⟩
  | j + 1, ks, ds, q, h, h', hm, hd => by
    obtain ⟨l, k, rfl, hl⟩ := snoc_of h
    obtain ⟨m, d, rfl, hl'⟩ := snoc_of h'
    have hp := hm k (by simp)
    have hq := hd d (by simp)
    obtain ⟨h1, h2, h3⟩ := xn_enc j l m (strB k.data.toList ++ (be d.toNat 2 ++ q)) hl hl' (fun x hx => hm x (by simp [hx])) (fun x hx => hd x (by simp [hx]))
    rw [encKs_snoc2 _ _ _ _ (by omega), List.append_assoc, List.append_assoc]
    rw [xnS, xnK, xnD, h1, h2, h3]
    obtain ⟨a1, a2⟩ := xstr k (be d.toNat 2 ++ q) hp
    obtain ⟨b1, b2⟩ := xnum2 d.toNat q (by omega)
    rw [a1, a2, b1, b2, Int.toNat_of_nonneg (by omega)]
    exact ⟨rfl, rfl, rfl⟩
/-- What the document's Read has read behind j rounds, and its reader's error. -/
def xK (s : ByteArray) : Nat := gNum (s, 0) 1
def xR1 (s : ByteArray) : Rst := sNum (s, 0) 1
def xN (s : ByteArray) : Nat := gNum (xR1 s) 1
def xR2 (s : ByteArray) : Rst := sNum (xR1 s) 1
def xR3 (s : ByteArray) : Rst := sNum (xR2 s) 2
def xLeaf (s : ByteArray) (j : Nat) : Nd := ⟨true, xlP (xR2 s) j, [], []⟩
def xInner (s : ByteArray) (j : Nat) : Nd := ⟨false, [], xnK (xR3 s) j, (gNum (xR2 s) 2 : Int) :: xnD (xR3 s) j⟩
theorem xread_some {s : ByteArray} {n : Nd} (h : readN s = some n) : (xK s = 1 → (xlS (xR2 s) (xN s)).2 = 0 ∧ xLeaf s (xN s) = n) ∧ (xK s ≠ 1 → (xnS (xR3 s) (xN s)).2 = 0 ∧ xInner s (xN s) = n) := by
  obtain ⟨h1, h2⟩ := (read_iff s n).1 h
  obtain ⟨hr, hz⟩ := writeE_right h1
  subst h2
  obtain ⟨lf, ps, ks, kd⟩ := n
  cases lf with
  | true =>
    have hp := right_ps hr rfl
    obtain ⟨_, rfl, rfl, _⟩ : _ ∧ ks = [] ∧ kd = [] ∧ _ := right_leaf hr rfl
    have hlen : ps.length < 256 := by
      have h3 := sum_ge ps (fun p hp' => (hp p hp').1.1)
      have h4 : 2 + (ps.map Pr.size).sum ≤ 256 := hz
      omega
    obtain ⟨z, hz'⟩ : ∃ z, (⟨true, ps, [], []⟩ : Nd).page = 1 :: UInt8.ofNat ps.length :: (encPs ps ++ z) := ⟨_, rfl⟩
    rw [hz']
    have e0 : xK (mkB (1 :: UInt8.ofNat ps.length :: (encPs ps ++ z))) = 1 := (xnum1 1 _).2
    have e1 : xR1 (mkB (1 :: UInt8.ofNat ps.length :: (encPs ps ++ z))) = (mkB (UInt8.ofNat ps.length :: (encPs ps ++ z)), 0) := (xnum1 1 _).1
    have e2 : xN (mkB (1 :: UInt8.ofNat ps.length :: (encPs ps ++ z))) = ps.length := by
      unfold xN
      rw [e1, (xnum1 _ _).2, UInt8.toNat_ofNat']
      exact Nat.mod_eq_of_lt hlen
    have e3 : xR2 (mkB (1 :: UInt8.ofNat ps.length :: (encPs ps ++ z))) = (mkB (encPs ps ++ z), 0) := by
      unfold xR2
      rw [e1, (xnum1 _ _).1]
    obtain ⟨f1, f2⟩ := xl_enc ps.length ps z rfl (fun p hp' => by have := hp p hp'; omega)
    refine ⟨fun _ => ?_, fun hne => absurd e0 hne⟩
    unfold xLeaf
    rw [e2, e3, f1, f2]
    exact ⟨rfl, rfl⟩
  | false =>
    obtain ⟨hd, rfl, hl, ho⟩ : _ ∧ ps = [] ∧ _ ∧ _ := right_inner hr rfl
    dsimp only at hd hl ho
    obtain ⟨d, m, rfl⟩ : ∃ d m, kd = d :: m := by
      cases kd with
      | nil => simp at hl
      | cons d m => exact ⟨d, m, rfl⟩
    have hkm := ordN_mem ho
    have hlen : ks.length < 256 := by
      have h3 := sumK_ge ks (fun p hp' => (hkm p hp').1)
      have h4 : 4 + (ks.map kSize).sum ≤ 256 := hz
      omega
    have hd0 := hd d (by simp)
    obtain ⟨z, hz'⟩ : ∃ z, (⟨false, [], ks, d :: m⟩ : Nd).page = 2 :: UInt8.ofNat ks.length :: (be d.toNat 2 ++ (encKs ks m ++ z)) := by
      refine ⟨List.replicate (256 - (⟨false, [], ks, d :: m⟩ : Nd).body.length) 0, ?_⟩
      show ([2, UInt8.ofNat ks.length] ++ be ((d :: m).headD 0).toNat 2 ++ encKs ks (d :: m).tail) ++ _ = _
      simp only [List.append_assoc, List.cons_append, List.nil_append]
      rfl
    rw [hz']
    obtain ⟨S, hS⟩ : ∃ S, mkB (2 :: UInt8.ofNat ks.length :: (be d.toNat 2 ++ (encKs ks m ++ z))) = S := ⟨_, rfl⟩
    have e0 : xK S = 2 := by rw [← hS]; exact (xnum1 2 _).2
    have e1 : xR1 S = (mkB (UInt8.ofNat ks.length :: (be d.toNat 2 ++ (encKs ks m ++ z))), 0) := by rw [← hS]; exact (xnum1 2 _).1
    have e2 : xN S = ks.length := by
      unfold xN
      rw [e1, (xnum1 _ _).2, UInt8.toNat_ofNat']
      exact Nat.mod_eq_of_lt hlen
    have e3 : xR2 S = (mkB (be d.toNat 2 ++ (encKs ks m ++ z)), 0) := by
      unfold xR2
      rw [e1, (xnum1 _ _).1]
    obtain ⟨g1, g2⟩ := xnum2 d.toNat (encKs ks m ++ z) (by omega)
    have e4 : xR3 S = (mkB (encKs ks m ++ z), 0) := by
      unfold xR3
      rw [e3, g1]
    obtain ⟨f1, f2, f3⟩ := xn_enc ks.length ks m z rfl (by simpa using hl) (fun p hp' => by have := hkm p hp'; omega) (fun x hx => hd x (by simp [hx]))
    rw [hS]
    refine ⟨fun h1 => by rw [e0] at h1; omega, fun _ => ?_⟩
    unfold xInner
    rw [e2, e3, e4, f1, f2, f3, g2, Int.toNat_of_nonneg (by omega)]
    exact ⟨rfl, rfl⟩
/-- Which node the document's Read tells, and the error beside it. -/
theorem xread_leaf (s : ByteArray) (j : Nat) (hk : xK s = 1) (hj : j ≤ xN s) (hx : j = xN s ∨ (xlS (xR2 s) j).2 ≠ 0) :
    readN s = if (xlS (xR2 s) j).2 = 0 ∧ (xLeaf s j).writeE = 0 ∧ (xLeaf s j).write = s then some (xLeaf s j) else none := by
  split
  · rename_i h
    refine (read_iff s _).2 ⟨h.2.1, ?_⟩
    have := h.2.2
    unfold Nd.write at this
    rw [if_pos h.2.1] at this
    exact this
  · rename_i h
    cases e : readN s with
    | none => rfl
    | some n =>
      exfalso
      obtain ⟨h1, h2⟩ := (xread_some e).1 hk
      have h0 : (xlS (xR2 s) j).2 = 0 := by
        apply Decidable.byContradiction
        intro hne
        have := xlS_stuck (xR2 s) j hne (xN s - j)
        rw [show j + (xN s - j) = xN s by omega] at this
        exact this h1
      have hje : j = xN s := by rcases hx with hx | hx; exact hx; exact absurd h0 hx
      rw [← hje] at h2
      obtain ⟨h3, h4⟩ := readN_only e
      rw [← h2] at h3 h4
      exact h ⟨h0, h3, h4⟩
theorem xread_inner (s : ByteArray) (j : Nat) (hk : xK s ≠ 1) (hj : j ≤ xN s) (hx : j = xN s ∨ (xnS (xR3 s) j).2 ≠ 0) :
    readN s = if (xnS (xR3 s) j).2 = 0 ∧ (xInner s j).writeE = 0 ∧ (xInner s j).write = s then some (xInner s j) else none := by
  split
  · rename_i h
    refine (read_iff s _).2 ⟨h.2.1, ?_⟩
    have := h.2.2
    unfold Nd.write at this
    rw [if_pos h.2.1] at this
    exact this
  · rename_i h
    cases e : readN s with
    | none => rfl
    | some n =>
      exfalso
      obtain ⟨h1, h2⟩ := (xread_some e).2 hk
      have h0 : (xnS (xR3 s) j).2 = 0 := by
        apply Decidable.byContradiction
        intro hne
        have := xnS_stuck (xR3 s) j hne (xN s - j)
        rw [show j + (xN s - j) = xN s by omega] at this
        exact this h1
      have hje : j = xN s := by rcases hx with hx | hx; exact hx; exact absurd h0 hx
      rw [← hje] at h2
      obtain ⟨h3, h4⟩ := readN_only e
      rw [← h2] at h3 h4
      exact h ⟨h0, h3, h4⟩

end Go.Proofs.YtponhibiomcidaaDoor
