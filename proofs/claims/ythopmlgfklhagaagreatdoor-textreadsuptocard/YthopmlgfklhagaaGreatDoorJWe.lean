/- Reading line by line, in plain words (no program): what the lines so far are, and the numbered lines of a text. No conditions but those that each theorem states. -/
import Derived.Test.YthopmlgfklhagaaGreatDoorJWd
namespace Go.Proofs.YthopmlgfklhagaaGreatDoor
open Go Go.RowKit
set_option linter.unusedVariables false

def preTL (P : List In) : Except (Int × Int) (List In) → Except (Int × Int) (List In)
  | .ok l => .ok (P ++ l)
  | .error e => .error e
theorem preTL_nil (x : Except (Int × Int) (List In)) : preTL [] x = x := by cases x <;> rfl
theorem preTL_preT (P : List In) (x : In) (e : Except (Int × Int) (List In)) : preTL P (preT x e) = preTL (P ++ [x]) e := by
  cases e with
  | error _ => rfl
  | ok l => show Except.ok (P ++ x :: l) = .ok (P ++ [x] ++ l); simp
/-- The lines so far have been read without an error; P is what they are. -/
def Rdn (pre : List (List UInt8)) (P : List In) : Prop := P.length ≤ 64 ∧ (∀ x ∈ P, x.wf) ∧ ∀ r, rdT 64 0 (pre ++ r) = preTL P (rdT (64 - P.length) (pre.length : Int) r)
theorem Rdn.nil : Rdn [] [] := by
  refine ⟨by simp, fun (x : In) hx => ?_, fun r => ?_⟩
  · exact absurd hx (by simp)
  · rw [preTL_nil]
    rfl
theorem len_snoc {α : Type} (l : List α) (x : α) : (((l ++ [x]).length : Nat) : Int) = (l.length : Int) + 1 := by simp
theorem Rdn.blank {pre : List (List UInt8)} {P : List In} {l : List UInt8} (h : Rdn pre P) (hw : wordsL l = []) : Rdn (pre ++ [l]) P := by
  refine ⟨h.1, h.2.1, fun r => ?_⟩
  rw [List.append_assoc, List.singleton_append, h.2.2, rdT_none _ _ _ _ (by rw [hw]; rfl), len_snoc]
theorem ne_empty {α : Type} {l : List α} (h : l ≠ []) : l.isEmpty = false := by cases l with | nil => exact absurd rfl h | cons _ _ => rfl
theorem Rdn.more {pre : List (List UInt8)} {P : List In} {l : List UInt8} {x : In} (h : Rdn pre P) (hw : wordsL l ≠ []) (hu : instU (wordsL l) = some x) (hl : P.length < 64) : Rdn (pre ++ [l]) (P ++ [x]) := by
  refine ⟨by simp; omega, fun y hy => ?_, fun r => ?_⟩
  · rcases List.mem_append.1 hy with hy | hy
    · exact h.2.1 y hy
    · rw [List.mem_singleton.1 hy]; exact instU_wf _ _ hu
  · obtain ⟨k, hk⟩ : ∃ k, 64 - P.length = k + 1 := ⟨63 - P.length, by omega⟩
    rw [List.append_assoc, List.singleton_append, h.2.2, hk, rdT_ok k _ _ _ (ne_empty hw) x hu, preTL_preT, len_snoc, show 64 - (P ++ [x]).length = k by simp; omega]
theorem Rdn.bad {pre : List (List UInt8)} {P : List In} {l : List UInt8} (h : Rdn pre P) (hw : wordsL l ≠ []) (hu : instU (wordsL l) = none) (r : List (List UInt8)) : rdT 64 0 (pre ++ l :: r) = .error ((pre.length : Int) + 1, 15) := by
  rw [h.2.2, rdT_bad _ _ _ _ (ne_empty hw) hu]
  rfl
theorem Rdn.long {pre : List (List UInt8)} {P : List In} {l : List UInt8} {x : In} (h : Rdn pre P) (hw : wordsL l ≠ []) (hu : instU (wordsL l) = some x) (hl : ¬ P.length < 64) (r : List (List UInt8)) : rdT 64 0 (pre ++ l :: r) = .error ((pre.length : Int) + 1, 3) := by
  rw [h.2.2, show 64 - P.length = 0 by omega, rdT_long _ _ _ (ne_empty hw) x hu]
  rfl
theorem Rdn.all {ls : List (List UInt8)} {P : List In} (h : Rdn ls P) : rdT 64 0 ls = .ok P := by
  have h1 := h.2.2 []
  rw [List.append_nil] at h1
  rw [h1]
  have : rdT (64 - P.length) (ls.length : Int) [] = .ok [] := by cases (64 - P.length) <;> rfl
  rw [this]
  show Except.ok (P ++ []) = _
  rw [List.append_nil]
/-- What Read answers, out of what the lines are. -/
def rtL : Except (Int × Int) (List In) → List In
  | .ok l => l
  | .error _ => []
def rtN : Except (Int × Int) (List In) → Int
  | .ok _ => 0
  | .error e => e.1
def rtE : Except (Int × Int) (List In) → Int
  | .ok _ => 0
  | .error e => e.2

/-- A line with its number. -/
abbrev Ln := { x : Int × List UInt8 // x.2.length ≤ 1099511627776 }
def Ln.n (x : Ln) : Int := x.1.1
def Ln.l (x : Ln) : List UInt8 := x.1.2
/-- Numbered from 1 on. -/
def Nmd (xs : List Ln) : Prop := ∀ (k : Nat) (x : Ln), xs[k]? = some x → Ln.n x = (k : Int) + 1
theorem Nmd.nil : Nmd [] := by
  intro k x h
  simp at h
theorem Nmd.snoc {xs : List Ln} {x : Ln} (h : Nmd xs) (hx : Ln.n x = (xs.length : Int) + 1) : Nmd (xs ++ [x]) := by
  intro k y hy
  rcases Nat.lt_or_ge k xs.length with hk | hk
  · rw [List.getElem?_append_left hk] at hy
    exact h k y hy
  · rw [List.getElem?_append_right hk] at hy
    have hk0 : k - xs.length = 0 := by
      rcases Nat.eq_zero_or_pos (k - xs.length) with h0 | h0
      · exact h0
      · rw [List.getElem?_eq_none (by simp; omega)] at hy
        cases hy
    rw [hk0] at hy
    cases hy
    rw [hx, show k = xs.length by omega]
theorem Nmd.last {xs : List Ln} {x : Ln} (h : Nmd (xs ++ [x])) : Ln.n x = (xs.length : Int) + 1 := h xs.length x (by simp)
/-- All lines of a text. -/
def AllL (s : List UInt8) (xs : List Ln) : Prop := Nmd xs ∧ xs.map Ln.l = splitC 10 s
/-- Some lines of it, from the first one on. -/
def SomeL (s : List UInt8) (xs : List Ln) : Prop := Nmd xs ∧ ∃ r, splitC 10 s = xs.map Ln.l ++ r
theorem split_len (c : UInt8) : ∀ s : List UInt8, (splitC c s).length ≤ s.length + 1
  | [] => by simp [splitC]
  | x :: s => by
    have h := split_len c s
    unfold splitC
    split
    · simp only [List.length_cons]; omega
    · split
      · simp
      · next h' t' e => rw [e] at h; simp only [List.length_cons] at h ⊢; omega

end Go.Proofs.YthopmlgfklhagaaGreatDoor
