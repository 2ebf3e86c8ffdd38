/- Which programs may be run, and which of their instructions can be come to, in plain words (no program). No conditions but those that each theorem states. -/
import Derived.Test.YtpoahegccjgnjaaGreatDoorIMath
namespace Go.Proofs.YtpoahegccjgnjaaGreatDoor
open Go Go.RowKit
set_option linter.unusedVariables false

/-- What can be come to from 0. -/
def Rch (sc : Nat → List Nat) (k : Nat) : Prop := ∀ P : Nat → Prop, P 0 → (∀ i j, P i → j ∈ sc i → P j) → P k
theorem Rch.zero {sc : Nat → List Nat} : Rch sc 0 := fun _ h _ => h
theorem Rch.go {sc : Nat → List Nat} (i k : Nat) (h : Rch sc i) (hk : k ∈ sc i) : Rch sc k := fun P h0 hs => hs i k (h P h0 hs) hk
def stepF (sc : Nat → List Nat) (out : Nat → Bool) (i : Nat) : Nat → Bool := if out i then fun k => out k || (sc i).contains k else out
def passF (sc : Nat → List Nat) (n : Nat) (out : Nat → Bool) : Nat → Bool := (List.range n).foldl (stepF sc) out
def iterF (sc : Nat → List Nat) (n : Nat) : Nat → (Nat → Bool) → Nat → Bool
  | 0, out => out
  | k + 1, out => iterF sc n k (passF sc n out)
theorem stepF_mono (sc : Nat → List Nat) (out : Nat → Bool) (i k : Nat) (h : out k = true) : stepF sc out i k = true := by
  unfold stepF
  split
  · show (out k || _) = true
    rw [h]; rfl
  · exact h
theorem foldF_mono (sc : Nat → List Nat) : ∀ (l : List Nat) (out : Nat → Bool) (k : Nat), out k = true → l.foldl (stepF sc) out k = true
  | [], out, k, h => h
  | i :: l, out, k, h => foldF_mono sc l _ k (stepF_mono sc out i k h)
theorem foldF_adds (sc : Nat → List Nat) : ∀ (l : List Nat) (out : Nat → Bool) (i k : Nat), i ∈ l → out i = true → k ∈ sc i → l.foldl (stepF sc) out k = true
  | j :: l, out, i, k, hi, ho, hk => by
    rw [List.foldl_cons]
    rcases List.mem_cons.1 hi with h | h
    · subst h
      refine foldF_mono sc l _ k ?_
      unfold stepF
      rw [if_pos ho]
      show (out k || (sc i).contains k) = true
      rw [List.contains_iff_mem.2 hk, Bool.or_true]
    · exact foldF_adds sc l _ i k h (stepF_mono sc out j i ho) hk
theorem stepF_sound (sc : Nat → List Nat) (out : Nat → Bool) (h : ∀ k, out k = true → Rch sc k) (i : Nat) : ∀ k, stepF sc out i k = true → Rch sc k := by
  intro k hk
  unfold stepF at hk
  split at hk
  · next hi =>
    have hk : (out k || (sc i).contains k) = true := hk
    rw [Bool.or_eq_true] at hk
    rcases hk with h1 | h1
    · exact h k h1
    · exact Rch.go i k (h i hi) (List.contains_iff_mem.1 h1)
  · exact h k hk
theorem foldF_sound (sc : Nat → List Nat) : ∀ (l : List Nat) (out : Nat → Bool), (∀ k, out k = true → Rch sc k) → ∀ k, l.foldl (stepF sc) out k = true → Rch sc k
  | [], out, h => h
  | i :: l, out, h => foldF_sound sc l _ (stepF_sound sc out h i)
theorem iterF_sound (sc : Nat → List Nat) (n : Nat) : ∀ (m : Nat) (out : Nat → Bool), (∀ k, out k = true → Rch sc k) → ∀ k, iterF sc n m out k = true → Rch sc k
  | 0, out, h => h
  | m + 1, out, h => iterF_sound sc n m _ (foldF_sound sc _ out h)
theorem iterF_mono (sc : Nat → List Nat) (n : Nat) : ∀ (m : Nat) (out : Nat → Bool) (k : Nat), out k = true → iterF sc n m out k = true
  | 0, out, k, h => h
  | m + 1, out, k, h => iterF_mono sc n m _ k (foldF_mono sc _ out k h)
def cntF (n : Nat) (out : Nat → Bool) : Nat := ((List.range n).filter out).length
theorem cntF_le (n : Nat) (out : Nat → Bool) : cntF n out ≤ n := by
  unfold cntF
  have := List.length_filter_le out (List.range n)
  rw [List.length_range] at this
  exact this
theorem filt_le {p q : Nat → Bool} : ∀ (l : List Nat), (∀ k ∈ l, p k = true → q k = true) → (l.filter p).length ≤ (l.filter q).length
  | [], _ => Nat.le_refl _
  | x :: l, h => by
    have ih := filt_le l (fun k hk => h k (by simp [hk]))
    rw [List.filter_cons, List.filter_cons]
    cases hp : p x with
    | false => simp only [Bool.false_eq_true, if_false]; split <;> simp <;> omega
    | true => rw [h x (by simp) hp]; simp only [if_true, List.length_cons]; omega
theorem filt_lt {p q : Nat → Bool} : ∀ (l : List Nat), (∀ k ∈ l, p k = true → q k = true) → (∃ k ∈ l, p k = false ∧ q k = true) → (l.filter p).length < (l.filter q).length
  | [], _, h => by obtain ⟨k, hk, _⟩ := h; cases hk
  | x :: l, h, hx => by
    have hle := filt_le (p := p) (q := q) l (fun k hk => h k (by simp [hk]))
    rw [List.filter_cons, List.filter_cons]
    obtain ⟨k, hk, h1, h2⟩ := hx
    rcases List.mem_cons.1 hk with e | e
    · subst e
      rw [h1, h2]
      simp only [Bool.false_eq_true, if_false, if_true, List.length_cons]
      omega
    · have ih := filt_lt (p := p) (q := q) l (fun k hk => h k (by simp [hk])) ⟨k, e, h1, h2⟩
      cases hp : p x with
      | false => simp only [Bool.false_eq_true, if_false]; split <;> simp <;> omega
      | true => rw [h x (by simp) hp]; simp only [if_true, List.length_cons]; omega
/-- What is within n and goes on within n. -/
def Closed (sc : Nat → List Nat) (n : Nat) (out : Nat → Bool) : Prop := ∀ i, i < n → out i = true → ∀ k ∈ sc i, k < n → out k = true
theorem closed_or (sc : Nat → List Nat) (n : Nat) (out : Nat → Bool) : Closed sc n out ∨ cntF n out < cntF n (passF sc n out) := by
  by_cases h : Closed sc n out
  · exact .inl h
  · right
    unfold Closed at h
    simp only [Classical.not_forall] at h
    obtain ⟨i, hi, ho, k, hk, hkn, hf⟩ := h
    refine filt_lt _ (fun j _ hj => foldF_mono sc _ out j hj) ⟨k, List.mem_range.2 hkn, by simpa using hf, foldF_adds sc _ out i k (List.mem_range.2 hi) ho hk⟩
theorem closed_pass (sc : Nat → List Nat) (n : Nat) (out : Nat → Bool) (h : Closed sc n out) (hs : ∀ i, i < n → ∀ k ∈ sc i, k < n) (hl : ∀ k, out k = true → k < n) : passF sc n out = out := by
  have key : ∀ (l : List Nat), (∀ i ∈ l, i < n) → l.foldl (stepF sc) out = out := by
    intro l
    induction l with
    | nil => intro _; rfl
    | cons i l ih =>
      intro hl2
      have hi := hl2 i (by simp)
      have e : stepF sc out i = out := by
        unfold stepF
        split
        · next ho =>
          funext k
          cases hk : out k with
          | true => rfl
          | false =>
            show (false || (sc i).contains k) = false
            rw [Bool.false_or]
            cases hc : (sc i).contains k with
            | false => rfl
            | true =>
              have hm := List.contains_iff_mem.1 hc
              rw [h i hi ho k hm (hs i hi k hm)] at hk
              cases hk
        · rfl
      rw [List.foldl_cons, e]
      exact ih (fun j hj => hl2 j (by simp [hj]))
  exact key _ (fun i hi => List.mem_range.1 hi)
theorem passF_lt (sc : Nat → List Nat) (n : Nat) (out : Nat → Bool) (hs : ∀ i, i < n → ∀ k ∈ sc i, k < n) (hl : ∀ k, out k = true → k < n) : ∀ k, passF sc n out k = true → k < n := by
  have key : ∀ (l : List Nat) (out : Nat → Bool), (∀ i ∈ l, i < n) → (∀ k, out k = true → k < n) → ∀ k, l.foldl (stepF sc) out k = true → k < n := by
    intro l
    induction l with
    | nil => intro out _ h; exact h
    | cons i l ih =>
      intro out hl2 h
      refine ih _ (fun j hj => hl2 j (by simp [hj])) (fun k hk => ?_)
      unfold stepF at hk
      split at hk
      · have hk : (out k || (sc i).contains k) = true := hk
        rw [Bool.or_eq_true] at hk
        rcases hk with h1 | h1
        · exact h k h1
        · exact hs i (hl2 i (by simp)) k (List.contains_iff_mem.1 h1)
      · exact h k hk
  exact key _ out (fun i hi => List.mem_range.1 hi) hl
theorem iterF_fix (sc : Nat → List Nat) (n : Nat) (out : Nat → Bool) (h : passF sc n out = out) : ∀ m, iterF sc n m out = out
  | 0 => rfl
  | m + 1 => by rw [iterF, h]; exact iterF_fix sc n out h m
theorem iterF_closed (sc : Nat → List Nat) (n : Nat) (hs : ∀ i, i < n → ∀ k ∈ sc i, k < n) : ∀ (m : Nat) (out : Nat → Bool), (∀ k, out k = true → k < n) → n ≤ cntF n out + m → Closed sc n (iterF sc n m out)
  | 0, out, hl, hc => by
    rcases closed_or sc n out with h | h
    · exact h
    · have := cntF_le n (passF sc n out)
      omega
  | m + 1, out, hl, hc => by
    rcases closed_or sc n out with h | h
    · rw [iterF_fix sc n out (closed_pass sc n out h hs hl)]
      exact h
    · rw [iterF]
      exact iterF_closed sc n hs m _ (passF_lt sc n out hs hl) (by omega)
def init0 : Nat → Bool := fun k => k == 0
/-- What n rounds find is just what can be come to. -/
theorem iterF_rch (sc : Nat → List Nat) (n : Nat) (hn : 0 < n) (hs : ∀ i, i < n → ∀ k ∈ sc i, k < n) (k : Nat) : iterF sc n n init0 k = true ↔ Rch sc k := by
  constructor
  · refine iterF_sound sc n n init0 (fun k h => ?_) k
    have : k = 0 := by simpa [init0] using h
    subst this
    exact Rch.zero
  · intro h
    have hc := iterF_closed sc n hs n init0 (fun k h => by have : k = 0 := by simpa [init0] using h
                                                           omega) (by omega)
    have key := h (fun k => k < n ∧ iterF sc n n init0 k = true) ⟨hn, iterF_mono sc n n init0 0 rfl⟩ (fun i k ih hk => ⟨hs i ih.1 k hk, hc i ih.1 ih.2 k hk (hs i ih.1 k hk)⟩)
    exact key.2

/-- The registers that an instruction names; where it goes on; whether it never goes on at the next one. -/
def opL (x : In) : List Int := [x.a, x.b, x.c].take (nOps x.op)
def skipA (op : Int) : Bool := op == 9 || op == 10 || op == 16
def regsI (x : In) : List Int := if skipA x.op then (opL x).drop 1 else opL x
def hasT (x : In) : Bool := x.op == 9 || x.op == 10
def endsI (x : In) : Bool := x.op == 9 || x.op == 18 || x.op == 19
def regOk (x : In) : Bool := (regsI x).all (fun r => decide (r < 6))
def tgtOk (n : Nat) (x : In) : Bool := !hasT x || decide (x.a < (n : Int))
/-- The number of the first that isn't as it should be, or how many there are. -/
def badI (p : In → Bool) : List In → Nat
  | [] => 0
  | x :: l => if p x then badI p l + 1 else 0
theorem badI_le (p : In → Bool) : ∀ l, badI p l ≤ l.length
  | [] => Nat.le_refl _
  | x :: l => by
    unfold badI
    have := badI_le p l
    split <;> simp <;> omega
theorem badI_all (p : In → Bool) : ∀ l, badI p l = l.length ↔ l.all p = true
  | [] => by simp [badI]
  | x :: l => by
    unfold badI
    have ih := badI_all p l
    rw [List.all_cons, List.length_cons]
    cases hp : p x with
    | true => rw [if_pos rfl, Bool.true_and, ← ih]; omega
    | false => rw [if_neg (by simp), Bool.false_and]; simp
/-- What Check answers: the error, and the number of the instruction at fault. -/
def chkI (l : List In) : Int × Int :=
  if l.length = 0 then (1, 0) else if 64 < l.length then (3, 64)
  else if badI okI l < l.length then (4, (badI okI l : Int))
  else if badI regOk l < l.length then (6, (badI regOk l : Int))
  else if badI (tgtOk l.length) l < l.length then (7, (badI (tgtOk l.length) l : Int))
  else if endsI (l.getD (l.length - 1) ⟨0, 0, 0, 0, zV⟩) then (0, 0) else (13, (l.length : Int) - 1)
structure RunOk (l : List In) : Prop where
  l0 : 0 < l.length
  l1 : l.length ≤ 64
  ok : l.all okI = true
  rg : l.all regOk = true
  tg : l.all (tgtOk l.length) = true
  en : endsI (l.getD (l.length - 1) ⟨0, 0, 0, 0, zV⟩) = true
theorem bad_not {p : In → Bool} {l : List In} (h : ¬ badI p l < l.length) : l.all p = true := (badI_all p l).1 (by have := badI_le p l; omega)
theorem bad_is {p : In → Bool} {l : List In} (h : l.all p = true) : ¬ badI p l < l.length := by rw [(badI_all p l).2 h]; omega
theorem chk_ok (l : List In) : (chkI l).1 = 0 ↔ RunOk l := by
  constructor
  · intro h
    unfold chkI at h
    split at h
    · cases h
    · next h1 =>
      split at h
      · cases h
      · next h2 =>
        split at h
        · cases h
        · next h3 =>
          split at h
          · cases h
          · next h4 =>
            split at h
            · cases h
            · next h5 =>
              split at h
              · next h6 => exact ⟨by omega, by omega, bad_not h3, bad_not h4, bad_not h5, h6⟩
              · cases h
  · intro h
    unfold chkI
    have h0 := h.l0
    have h1 := h.l1
    rw [if_neg (by omega), if_neg (by omega), if_neg (bad_is h.ok), if_neg (bad_is h.rg), if_neg (bad_is h.tg), if_pos h.en]
theorem chk_zero (l : List In) (h : RunOk l) : chkI l = (0, 0) := by
  unfold chkI
  have h0 := h.l0
  have h1 := h.l1
  rw [if_neg (by omega), if_neg (by omega), if_neg (bad_is h.ok), if_neg (bad_is h.rg), if_neg (bad_is h.tg), if_pos h.en]
/-- Where an instruction goes on. -/
def scI (l : List In) (i : Nat) : List Nat := (if hasT (l.getD i ⟨0, 0, 0, 0, zV⟩) then [(l.getD i ⟨0, 0, 0, 0, zV⟩).a.toNat] else []) ++ (if endsI (l.getD i ⟨0, 0, 0, 0, zV⟩) then [] else [i + 1])
theorem getD_mem {l : List In} {i : Nat} (h : i < l.length) (d : In) : l.getD i d ∈ l := by
  rw [List.getD_eq_getElem?_getD, List.getElem?_eq_getElem h]
  exact List.getElem_mem h
theorem sc_lt {l : List In} (h : RunOk l) : ∀ i, i < l.length → ∀ k ∈ scI l i, k < l.length := by
  intro i hi k hk
  have hm := getD_mem hi ⟨0, 0, 0, 0, zV⟩
  unfold scI at hk
  rcases List.mem_append.1 hk with h1 | h1
  · split at h1
    · next ht =>
      have hg := List.all_eq_true.1 h.tg _ hm
      unfold tgtOk at hg
      rw [ht] at hg
      have hg2 := of_decide_eq_true (by simpa using hg : decide ((l.getD i ⟨0, 0, 0, 0, zV⟩).a < (l.length : Int)) = true)
      have ho := List.all_eq_true.1 h.ok _ hm
      have hb := of_decide_eq_true (fit_lt (okI_parts ho).2.1).1
      rw [List.mem_singleton.1 h1]
      omega
    · cases h1
  · split at h1
    · cases h1
    · next he =>
      rw [List.mem_singleton.1 h1]
      rcases Nat.lt_or_ge (i + 1) l.length with h2 | h2
      · exact h2
      · exfalso
        have hi2 : i = l.length - 1 := by omega
        rw [hi2] at he
        exact he h.en
/-- What Reached answers. -/
def rchI (l : List In) : List Bool := (List.range l.length).map (iterF (scI l) l.length l.length init0)
theorem rchI_at {l : List In} (h : RunOk l) (i : Nat) (hi : i < l.length) : (rchI l)[i]? = some true ↔ Rch (scI l) i := by
  unfold rchI
  rw [List.getElem?_map, List.getElem?_range hi, Option.map_some]
  rw [← iterF_rch (scI l) l.length h.l0 (sc_lt h) i]
  simp

end Go.Proofs.YtpoahegccjgnjaaGreatDoor
