/- Places in a ring, and which pages are kept behind a read: plain mathematics, nothing of the program. Conditions: those that each theorem states. -/
import Derived.Test.YtcfhgfelmofgjaaJB
namespace Go.Proofs.Ytcfhgfelmofgjaa
set_option linter.unusedVariables false

/-- Another value at one place. -/
def updN (f : Nat → Nat) (i x : Nat) : Nat → Nat := fun k => if k = i then x else f k
theorem updN_same (f : Nat → Nat) (i x : Nat) : updN f i x i = x := by simp [updN]
theorem updN_ne {f : Nat → Nat} {i x k : Nat} (h : k ≠ i) : updN f i x k = f k := by simp [updN, h]
/-- From x behind, through the places l, to y; and ahead, back again. -/
def Seg (be ah : Nat → Nat) : Nat → List Nat → Nat → Prop
  | x, [], y => be x = y ∧ ah y = x
  | x, a :: l, y => be x = a ∧ ah a = x ∧ Seg be ah a l y
theorem Seg.split {be ah : Nat → Nat} (q : List Nat) (a : Nat) : ∀ (p : List Nat) (x y : Nat), Seg be ah x (p ++ a :: q) y ↔ Seg be ah x p a ∧ Seg be ah a q y
  | [], x, y => by simp [Seg, and_assoc]
  | b :: p, x, y => by simp [Seg, Seg.split q a p b y, and_assoc]
theorem Seg.same {be ah be' ah' : Nat → Nat} : ∀ (l : List Nat) (x y : Nat), Seg be ah x l y → (∀ z ∈ x :: l, be' z = be z) → (∀ z ∈ l ++ [y], ah' z = ah z) → Seg be' ah' x l y
  | [], x, y, h, h1, h2 => ⟨by rw [h1 x (by simp)]; exact h.1, by rw [h2 y (by simp)]; exact h.2⟩
  | a :: l, x, y, h, h1, h2 => ⟨by rw [h1 x (by simp)]; exact h.1, by rw [h2 a (by simp)]; exact h.2.1, Seg.same l a y h.2.2 (fun z hz => h1 z (List.mem_cons_of_mem _ hz)) (fun z hz => h2 z (List.mem_cons_of_mem _ hz))⟩
theorem Seg.first {be ah : Nat → Nat} {x y : Nat} {l : List Nat} (h : Seg be ah x l y) : be x ∈ l ++ [y] := by
  cases l with
  | nil => rw [h.1]; simp
  | cons a l => rw [h.1]; simp
theorem Seg.last {be ah : Nat → Nat} : ∀ (l : List Nat) (x y : Nat), Seg be ah x l y → ah y ∈ x :: l
  | [], x, y, h => by rw [h.2]; simp
  | a :: l, x, y, h => List.mem_cons_of_mem _ (Seg.last l a y h.2.2)
/-- A place leaves. -/
theorem Seg.leave {be ah : Nat → Nat} (x : Nat) (q : List Nat) (t : Nat) (h2 : Seg be ah x q t) : ∀ (p : List Nat) (s : Nat), Seg be ah s p x → (s :: (p ++ x :: q)).Nodup → (∀ z ∈ p ++ x :: q, z ≠ t) →
    Seg (updN be (ah x) (be x)) (updN ah (be x) (ah x)) s (p ++ q) t
  | [], s, h, hn, ht => by
    obtain ⟨a1, a2⟩ := h
    rw [a2]
    cases q with
    | nil =>
      obtain ⟨b1, b2⟩ := h2
      exact ⟨by rw [updN_same, b1], by rw [b1, updN_same]⟩
    | cons b q =>
      obtain ⟨b1, b2, b3⟩ := h2
      rw [b1]
      refine ⟨updN_same _ _ _, updN_same _ _ _, b3.same _ _ _ (fun z hz => updN_ne ?_) (fun z hz => updN_ne ?_)⟩
      · rintro rfl
        simp at hn hz
        rcases hz with rfl | hz
        · exact hn.1.2.1 rfl
        · exact hn.1.2.2 hz
      · rintro rfl
        simp at hn hz ht
        rcases hz with hz | rfl
        · exact hn.2.2.1 hz
        · exact ht.2.1 rfl
  | a :: p, s, h, hn, ht => by
    obtain ⟨b1, b2, b3⟩ := h
    have hn' : (a :: (p ++ x :: q)).Nodup := by
      have := List.nodup_cons.1 hn
      exact this.2
    have ih := Seg.leave x q t h2 p a b3 hn' (fun z hz => ht z (List.mem_cons_of_mem _ hz))
    have l1 := Seg.last p a x b3
    have l2 := Seg.first h2
    refine ⟨?_, ?_, ih⟩
    · rw [updN_ne]
      · exact b1
      · rintro rfl
        have := (List.nodup_cons.1 hn).1
        exact this (by
          rcases List.mem_cons.1 l1 with e | e
          · exact e ▸ List.mem_cons_self
          · exact List.mem_cons_of_mem _ (List.mem_append.2 (.inl e)))
    · rw [updN_ne]
      · exact b2
      · rintro rfl
        rcases List.mem_append.1 l2 with e | e
        · have := (List.nodup_cons.1 hn').1
          exact this (List.mem_append.2 (.inr (List.mem_cons_of_mem _ e)))
        · exact ht (be x) (by simp) (by simpa using e)
/-- A place joins, as the first. -/
theorem Seg.join {be ah : Nat → Nat} {s x : Nat} {l : List Nat} (h : Seg be ah s l s) (hx : x ∉ s :: l) (hs : s ∉ l) (hn : l.Nodup) :
    Seg (updN (updN be x (be s)) s x) (updN (updN ah x s) (be s) x) s (x :: l) s := by
  have hsx : x ≠ s := fun e => hx (by rw [e]; simp)
  cases l with
  | nil =>
    obtain ⟨b1, b2⟩ := h
    rw [b1]
    exact ⟨updN_same _ _ _, by rw [updN_ne hsx, updN_same], by rw [updN_ne hsx, updN_same], updN_same _ _ _⟩
  | cons b l =>
    obtain ⟨b1, b2, b3⟩ := h
    rw [b1]
    simp at hx hs hn
    refine ⟨updN_same _ _ _, by rw [updN_ne hx.2.1, updN_same], by rw [updN_ne hsx, updN_same], updN_same _ _ _, b3.same _ _ _ (fun z hz => ?_) (fun z hz => ?_)⟩
    · rw [updN_ne, updN_ne]
      · rintro rfl; simp at hz; rcases hz with rfl | hz
        · exact hx.2.1 rfl
        · exact hx.2.2 hz
      · rintro rfl; simp at hz; rcases hz with rfl | hz
        · exact hs.1 rfl
        · exact hs.2 hz
    · rw [updN_ne, updN_ne]
      · rintro rfl; simp at hz; rcases hz with hz | rfl
        · exact hx.2.2 hz
        · exact hsx rfl
      · rintro rfl; simp at hz; rcases hz with hz | rfl
        · exact hn.1 hz
        · exact hs.1 rfl
/-- The last place. -/
theorem Seg.back {be ah : Nat → Nat} {x y a : Nat} {l : List Nat} (h : Seg be ah x (l ++ [a]) y) : ah y = a := by
  rw [Seg.split] at h
  exact h.2.2

/-- What is kept behind a read. -/
def use (sz : Nat) (K : List Int) (n : Int) : List Int := if n ∈ K then n :: K.erase n else (n :: K).take sz
theorem use_len {sz : Nat} {K : List Int} (h : K.length ≤ sz) (n : Int) : (use sz K n).length ≤ sz := by
  unfold use
  split
  · rename_i hn
    rw [List.length_cons, List.length_erase_of_mem hn]
    have := List.length_pos_of_mem hn
    omega
  · rw [List.length_take]; omega
theorem use_nodup {sz : Nat} {K : List Int} (h : K.Nodup) (n : Int) : (use sz K n).Nodup := by
  unfold use
  split
  · rw [List.nodup_cons]
    exact ⟨fun hm => by rw [h.mem_erase_iff] at hm; exact hm.1 rfl, h.erase n⟩
  · rename_i hn
    exact (List.nodup_cons.2 ⟨hn, h⟩).sublist (List.take_sublist _ _)
theorem use_head {sz : Nat} {K : List Int} (hs : 0 < sz) (n : Int) : (use sz K n)[0]? = some n := by
  unfold use
  split
  · rfl
  · obtain ⟨k, rfl⟩ : ∃ k, sz = k + 1 := ⟨sz - 1, by omega⟩
    rfl
theorem use_mem {sz : Nat} {K : List Int} {n z : Int} (h : z ∈ use sz K n) : z = n ∨ z ∈ K := by
  unfold use at h
  split at h
  · rcases List.mem_cons.1 h with e | e
    · exact .inl e
    · exact .inr (List.mem_of_mem_erase e)
  · rcases List.mem_cons.1 (List.mem_of_mem_take h) with e | e
    · exact .inl e
    · exact .inr e
/-- A small cache's and a large one's. -/
structure Less (s t : Nat) (K L : List Int) : Prop where
  pre : K <+: L
  all : K.length < s → K = L
  lk : K.length ≤ s
  ll : L.length ≤ t
theorem Less.use {s t : Nat} {K L : List Int} (h : Less s t K L) (hst : s ≤ t) (n : Int) : Less s t (use s K n) (use t L n) ∧ (n ∈ K → n ∈ L) := by
  have hl := use_len h.lk n
  have hl' := use_len h.ll n
  obtain ⟨r, rfl⟩ := h.pre
  refine ⟨?_, fun hn => List.mem_append.2 (.inl hn)⟩
  by_cases h1 : n ∈ K
  · have h2 : n ∈ K ++ r := List.mem_append.2 (.inl h1)
    refine ⟨?_, fun hlt => ?_, hl, hl'⟩
    · unfold Go.Proofs.Ytcfhgfelmofgjaa.use
      rw [if_pos h1, if_pos h2, List.erase_append_left _ h1]
      exact ⟨r, by simp⟩
    · unfold Go.Proofs.Ytcfhgfelmofgjaa.use at *
      rw [if_pos h1] at *
      rw [if_pos h2] at *
      have hp := List.length_pos_of_mem h1
      have : K.length < s := by
        rw [List.length_cons, List.length_erase_of_mem h1] at hlt
        omega
      rw [← h.all this]
  · by_cases h2 : n ∈ K ++ r
    · have hKs : K.length = s := by
        rcases Nat.lt_or_ge K.length s with hlt | hge
        · rw [← h.all hlt] at h2
          exact absurd h2 h1
        · have := h.lk
          omega
      have e1 : (Go.Proofs.Ytcfhgfelmofgjaa.use s K n).length = s := by
        unfold Go.Proofs.Ytcfhgfelmofgjaa.use
        rw [if_neg h1, List.length_take, List.length_cons]
        omega
      refine ⟨?_, fun hlt => by omega, hl, hl'⟩
      unfold Go.Proofs.Ytcfhgfelmofgjaa.use
      rw [if_neg h1, if_pos h2, List.erase_append_right _ h1]
      exact (List.take_prefix _ _).trans ⟨r.erase n, by simp⟩
    · rcases Nat.lt_or_ge K.length s with hlt | hge
      · have hKr := h.all hlt
        rw [← hKr]
        have : Go.Proofs.Ytcfhgfelmofgjaa.use s K n = Go.Proofs.Ytcfhgfelmofgjaa.use t K n := by
          unfold Go.Proofs.Ytcfhgfelmofgjaa.use
          rw [if_neg h1, if_neg h1, List.take_of_length_le (by simp; omega), List.take_of_length_le (by simp; omega)]
        rw [this]
        exact ⟨List.prefix_refl _, fun _ => rfl, by rw [← this]; exact hl, by rw [hKr]; exact hl'⟩
      · have hlk := h.lk
        have e1 : (Go.Proofs.Ytcfhgfelmofgjaa.use s K n).length = s := by
          unfold Go.Proofs.Ytcfhgfelmofgjaa.use
          rw [if_neg h1, List.length_take, List.length_cons]
          omega
        refine ⟨?_, fun hlt => by omega, hl, hl'⟩
        unfold Go.Proofs.Ytcfhgfelmofgjaa.use
        rw [if_neg h1, if_neg h2]
        have e2 : (n :: K).take s = (n :: (K ++ r)).take s := by
          rw [← List.cons_append, List.take_append_of_le_length (by simp; omega)]
        rw [e2]
        have e3 := List.take_take (i := s) (j := t) (l := n :: (K ++ r))
        rw [Nat.min_eq_left hst] at e3
        rw [← e3]
        exact List.take_prefix _ _
end Go.Proofs.Ytcfhgfelmofgjaa
