/- Nodes of a tree: where a key is, a pair more, a pair less, parts and nodes that are joined: plain mathematics, nothing of the program. Conditions: those that each theorem states. -/
import Derived.Test.YtponhibiomcidaaDoorNMath
namespace Go.Proofs.YtponhibiomcidaaDoor
set_option linter.unusedVariables false

/-- How many pairs are ahead of a key; whether the next one has it; how many keys aren't behind it. -/
def findN (ps : List Pr) (k : ByteArray) : Nat := (ps.filter (fun p => lessB p.k k)).length
def hasN (ps : List Pr) (k : ByteArray) : Bool := match ps[findN ps k]? with
  | some p => decide (p.k = k)
  | none => false
def childN (ks : List ByteArray) (k : ByteArray) : Nat := (ks.filter (fun x => !lessB k x)).length
theorem findN_le (ps : List Pr) (k : ByteArray) : findN ps k ≤ ps.length := List.length_filter_le _ _
def behind (ps : List Pr) (k : ByteArray) : Nat := if hasN ps k then findN ps k + 1 else findN ps k
theorem behind_le (ps : List Pr) (k : ByteArray) : behind ps k ≤ ps.length := by
  unfold behind
  split
  · rename_i h
    unfold hasN at h
    split at h
    · rename_i p hp
      have := (List.getElem?_eq_some_iff.1 hp).1
      omega
    · cases h
  · exact findN_le _ _
def Nd.put (n : Nd) (k v : ByteArray) : Nd := ⟨true, n.ps.take (findN n.ps k) ++ [⟨k, v⟩] ++ n.ps.drop (behind n.ps k), [], []⟩
def Nd.cut (n : Nd) (k : ByteArray) : Nd := ⟨true, n.ps.take (findN n.ps k) ++ n.ps.drop (behind n.ps k), [], []⟩
/-- Pairs in order. -/
def Asc (ps : List Pr) : Prop := ps.Pairwise (fun a b => lessB a.k b.k = true)
theorem chain_pairwise : ∀ (l : List ByteArray), chainB l = true → l.Pairwise (fun a b => lessB a b = true)
  | [], _ => List.Pairwise.nil
  | [a], _ => List.pairwise_singleton _ _
  | a :: b :: l, h => by
    simp only [chainB, Bool.and_eq_true] at h
    have ih := chain_pairwise (b :: l) h.2
    refine List.Pairwise.cons (fun c hc => ?_) ih
    rcases List.mem_cons.1 hc with e | e
    · rw [e]; exact h.1
    · exact lessB_trans h.1 ((List.pairwise_cons.1 ih).1 c e)
theorem pairwise_chain : ∀ (l : List ByteArray), l.Pairwise (fun a b => lessB a b = true) → chainB l = true
  | [], _ => rfl
  | [a], _ => rfl
  | a :: b :: l, h => by
    obtain ⟨h1, h2⟩ := List.pairwise_cons.1 h
    simp only [chainB, Bool.and_eq_true]
    exact ⟨h1 b List.mem_cons_self, pairwise_chain _ h2⟩
theorem right_asc {n : Nd} (h : n.right = true) : Asc n.ps := by
  cases hl : n.leaf with
  | true =>
    have := chain_pairwise _ (ordN_chain (right_leaf h hl).2.2.2)
    exact List.pairwise_map.1 this
  | false =>
    rw [(right_inner h hl).2.1]
    exact List.Pairwise.nil
/-- Pairs in order part at a key. -/
theorem parted (ps : List Pr) (h : Asc ps) (k : ByteArray) : ∃ A C, ps = A ++ C ∧ (∀ p ∈ A, lessB p.k k = true) ∧ ∀ p ∈ C, lessB p.k k = false := by
  induction ps with
  | nil => exact ⟨[], [], rfl, (fun p h => by cases h), (fun p h => by cases h)⟩
  | cons p ps ih =>
    obtain ⟨h1, h2⟩ := List.pairwise_cons.1 h
    cases hp : lessB p.k k with
    | true =>
      obtain ⟨A, C, e, hA, hC⟩ := ih h2
      refine ⟨p :: A, C, by rw [e]; rfl, fun q hq => ?_, hC⟩
      rcases List.mem_cons.1 hq with e | e
      · rw [e]; exact hp
      · exact hA q e
    | false =>
      refine ⟨[], p :: ps, rfl, (fun q h => by cases h), fun q hq => ?_⟩
      rcases List.mem_cons.1 hq with e | e
      · rw [e]; exact hp
      · cases hq : lessB q.k k with
        | false => rfl
        | true =>
          have := lessB_trans (h1 q e) hq
          rw [hp] at this
          cases this
theorem findN_at (A C : List Pr) (k : ByteArray) (hA : ∀ p ∈ A, lessB p.k k = true) (hC : ∀ p ∈ C, lessB p.k k = false) : findN (A ++ C) k = A.length := by
  unfold findN
  rw [List.filter_append, List.filter_eq_self.2 hA, List.filter_eq_nil_iff.2 (fun p hp => by rw [hC p hp]; simp), List.append_nil]
theorem hasN_at (A C : List Pr) (k : ByteArray) (hA : ∀ p ∈ A, lessB p.k k = true) (hC : ∀ p ∈ C, lessB p.k k = false) : hasN (A ++ C) k = match C with
  | p :: _ => decide (p.k = k)
  | [] => false := by
  unfold hasN
  rw [findN_at A C k hA hC, List.getElem?_append_right (Nat.le_refl _), Nat.sub_self]
  cases C <;> rfl
/-- What was put is found, what was cut isn't. -/
theorem put_cut (n : Nd) (h : Asc n.ps) (k v : ByteArray) : hasN (n.put k v).ps k = true ∧ (n.put k v).ps[findN (n.put k v).ps k]? = some ⟨k, v⟩ ∧ hasN (n.cut k).ps k = false ∧ (n.put k v).cut k = n.cut k := by
  obtain ⟨A, C, e, hA, hC⟩ := parted n.ps h k
  have hf := findN_at A C k hA hC
  have hh := hasN_at A C k hA hC
  have hk : lessB k k = false := lessB_irrefl k
  -- the pairs behind the key
  obtain ⟨C', hd, hC', hn⟩ : ∃ C', n.ps.drop (behind n.ps k) = C' ∧ (∀ p ∈ C', lessB p.k k = false) ∧ ∀ p ∈ C', p.k ≠ k := by
    unfold behind
    rw [e, hh, hf]
    cases C with
    | nil =>
      refine ⟨[], ?_, (fun p h => by cases h), (fun p h => by cases h)⟩
      simp
    | cons c C =>
      by_cases hc : c.k = k
      · have e1 : (decide (c.k = k)) = true := decide_eq_true hc
        refine ⟨C, ?_, fun p hp => hC p (List.mem_cons_of_mem _ hp), fun p hp e2 => ?_⟩
        · simp [e1]
        · rw [e] at h
          have h2 := (List.pairwise_append.1 h).2.1
          have h3 := (List.pairwise_cons.1 h2).1 p hp
          rw [hc, e2, hk] at h3
          cases h3
      · have e1 : (decide (c.k = k)) = false := decide_eq_false hc
        refine ⟨c :: C, ?_, hC, fun p hp e2 => ?_⟩
        · simp [e1]
        · rcases List.mem_cons.1 hp with e3 | e3
          · rw [e3] at e2; exact hc e2
          · rw [e] at h
            have h2 := (List.pairwise_append.1 h).2.1
            have h3 := (List.pairwise_cons.1 h2).1 p e3
            rw [e2, hC c List.mem_cons_self] at h3
            cases h3
  have ht : n.ps.take (findN n.ps k) = A := by rw [e, hf, List.take_left]
  have hput : (n.put k v).ps = A ++ (⟨k, v⟩ :: C') := by
    show n.ps.take (findN n.ps k) ++ [⟨k, v⟩] ++ n.ps.drop (behind n.ps k) = _
    rw [ht, hd, List.append_assoc]
    rfl
  have hcut : (n.cut k).ps = A ++ C' := by
    show n.ps.take (findN n.ps k) ++ n.ps.drop (behind n.ps k) = _
    rw [ht, hd]
  have hC2 : ∀ p ∈ (⟨k, v⟩ :: C' : List Pr), lessB p.k k = false := fun p hp => by
    rcases List.mem_cons.1 hp with e | e
    · rw [e]; exact hk
    · exact hC' p e
  have f2 := findN_at A _ k hA hC2
  have g2 := hasN_at A _ k hA hC2
  refine ⟨by rw [hput, g2]; exact decide_eq_true rfl, ?_, ?_, ?_⟩
  · rw [hput, f2, List.getElem?_append_right (Nat.le_refl _), Nat.sub_self]
    rfl
  · rw [hcut, hasN_at A C' k hA hC']
    cases C' with
    | nil => rfl
    | cons c C' => exact decide_eq_false (hn c List.mem_cons_self)
  · have hb : behind (n.put k v).ps k = A.length + 1 := by
      unfold behind
      rw [hput, g2, f2]
      simp
    have hc3 : ((n.put k v).cut k).ps = A ++ C' := by
      show (n.put k v).ps.take (findN (n.put k v).ps k) ++ (n.put k v).ps.drop (behind (n.put k v).ps k) = _
      rw [hb, hput, f2, List.take_left]
      congr 1
      have : A ++ (⟨k, v⟩ :: C') = (A ++ [⟨k, v⟩]) ++ C' := by rw [List.append_assoc]; rfl
      rw [this]
      have h4 := List.drop_left (l₁ := A ++ [(⟨k, v⟩ : Pr)]) (l₂ := C')
      rw [List.length_append] at h4
      exact h4
    show (⟨true, _, [], []⟩ : Nd) = ⟨true, _, [], []⟩
    have e5 : ((n.put k v).cut k).ps = (n.cut k).ps := by rw [hc3, hcut]
    exact congrArg (fun l => (⟨true, l, [], []⟩ : Nd)) e5
/-- Where a row of sizes parts. -/
def splG (sz : Nat → Nat) (all lim : Nat) : Nat → Nat → Nat → Nat
  | 0, i, _ => i
  | f + 1, i, part => if i < lim ∧ 2 * part < all then splG sz all lim f (i + 1) (part + sz i) else i
def sumTo (sz : Nat → Nat) : Nat → Nat
  | 0 => 0
  | i + 1 => sumTo sz i + sz i
theorem splG_spec (sz : Nat → Nat) (all lim : Nat) : ∀ f i part, part = sumTo sz i → 1 ≤ i → lim ≤ i + f → (i = 1 ∨ 2 * sumTo sz (i - 1) < all) →
    ∃ j, splG sz all lim f i part = j ∧ i ≤ j ∧ (j ≤ lim ∨ j = i) ∧ (lim ≤ j ∨ all ≤ 2 * sumTo sz j) ∧ (j = 1 ∨ 2 * sumTo sz (j - 1) < all)
  | 0, i, part, hp, h1, hl, hi => ⟨i, rfl, Nat.le_refl _, .inr rfl, .inl (by omega), hi⟩
  | f + 1, i, part, hp, h1, hl, hi => by
    unfold splG
    by_cases h : i < lim ∧ 2 * part < all
    · rw [if_pos h]
      obtain ⟨j, e, h2, h3, h4, h5⟩ := splG_spec sz all lim f (i + 1) (part + sz i) (by rw [hp]; rfl) (by omega) (by omega) (.inr (by rw [Nat.add_sub_cancel, ← hp]; exact h.2))
      exact ⟨j, e, by omega, by omega, h4, h5⟩
    · rw [if_neg h]
      refine ⟨i, rfl, Nat.le_refl _, .inr rfl, ?_, hi⟩
      by_cases hlim : i < lim
      · right
        rw [← hp]
        omega
      · left
        omega
theorem sumTo_list {α : Type} (f : α → Nat) (d : α) : ∀ (l : List α) (i : Nat), i ≤ l.length → sumTo (fun j => f (l.getD j d)) i = ((l.take i).map f).sum := by
  intro l i
  induction i with
  | zero => intro _; simp [sumTo]
  | succ i ih =>
    intro h
    have hi : i < l.length := by omega
    show sumTo _ i + f (l.getD i d) = _
    rw [ih (by omega), List.take_succ_eq_append_getElem hi, List.map_append, List.sum_append, List.getD_eq_getElem?_getD, List.getElem?_eq_getElem hi]
    simp
/-- Where a node is split. -/
def Nd.at_ (n : Nd) : Nat := if n.leaf then splG (fun j => (n.ps.getD j ⟨⟨#[]⟩, ⟨#[]⟩⟩).size) (n.size - 2) (n.ps.length - 1) n.ps.length 1 (n.ps.getD 0 ⟨⟨#[]⟩, ⟨#[]⟩⟩).size
  else splG (fun j => kSize (n.ks.getD j ⟨#[]⟩)) (n.size - 4) (n.ks.length - 2) n.ks.length 1 (kSize (n.ks.getD 0 ⟨#[]⟩))
def Nd.parts (n : Nd) : Bool := if n.leaf then decide (2 ≤ n.ps.length) else decide (3 ≤ n.ks.length ∧ n.kd.length = n.ks.length + 1)
def Nd.fst (n : Nd) : Nd := if n.parts then (if n.leaf then ⟨true, n.ps.take n.at_, [], []⟩ else ⟨false, [], n.ks.take n.at_, n.kd.take (n.at_ + 1)⟩) else n
def Nd.snd (n : Nd) : Nd := if n.parts then (if n.leaf then ⟨true, n.ps.drop n.at_, [], []⟩ else ⟨false, [], n.ks.drop (n.at_ + 1), n.kd.drop (n.at_ + 1)⟩) else ⟨false, [], [], []⟩
def Nd.mid (n : Nd) : ByteArray := if n.parts then (if n.leaf then (n.ps.getD n.at_ ⟨⟨#[]⟩, ⟨#[]⟩⟩).k else n.ks.getD n.at_ ⟨#[]⟩) else ⟨#[]⟩
def Nd.join (a b : Nd) (k : ByteArray) : Nd := if a.leaf then ⟨true, a.ps ++ b.ps, [], []⟩ else ⟨false, [], a.ks ++ [k] ++ b.ks, a.kd ++ b.kd⟩

end Go.Proofs.YtponhibiomcidaaDoor
