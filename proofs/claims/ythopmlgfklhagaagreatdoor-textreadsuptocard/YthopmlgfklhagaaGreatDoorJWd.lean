/- Lines as words, in plain words (no program): blanks ahead, a word cut off, at most five words; what is read of words is theirs just where its own words are these. No conditions but those that each theorem states. -/
import Derived.Test.YthopmlgfklhagaaGreatDoorJLine
namespace Go.Proofs.YthopmlgfklhagaaGreatDoor
open Go Go.RowKit
set_option linter.unusedVariables false

theorem wordsL_blank (r : List UInt8) : wordsL (32 :: r) = wordsL r := by
  unfold wordsL
  rw [splitC_at, List.filter_cons]
  simp
theorem wordsL_blanks : ∀ (n : Nat) (r : List UInt8), wordsL (List.replicate n 32 ++ r) = wordsL r
  | 0, r => rfl
  | n + 1, r => by rw [List.replicate_succ, List.cons_append, wordsL_blank, wordsL_blanks n r]
theorem wordsL_cut (a r : List UInt8) (ha : a ≠ []) (h : ∀ x ∈ a, x ≠ 32) : wordsL (a ++ 32 :: r) = a :: wordsL r := by
  unfold wordsL
  rw [splitC_clean 32 a r h, List.filter_cons]
  cases a with
  | nil => exact absurd rfl ha
  | cons c t => simp
theorem wordsL_last (a : List UInt8) (ha : a ≠ []) (h : ∀ x ∈ a, x ≠ 32) : wordsL a = [a] := by
  unfold wordsL
  rw [splitC_one 32 a h]
  cases a with
  | nil => exact absurd rfl ha
  | cons c t => simp
theorem wantW_le (op : Int) : wantW op ≤ 4 := by
  unfold wantW
  split
  · next h => rw [h, nOps1]; omega
  · have := nOps_le op; omega
theorem instU_none (ws : List (List UInt8)) (h : ws.length ≠ wantW (opU (ws.headD []))) : instU ws = none := by
  unfold instU
  rw [decide_eq_false h]
  simp
theorem instU_take (ws : List (List UInt8)) : instU (ws.take 5) = instU ws := by
  rcases Nat.lt_or_ge ws.length 6 with h | h
  · rw [List.take_of_length_le (by omega)]
  · have h1 := wantW_le (opU (ws.headD []))
    have h2 := wantW_le (opU ((ws.take 5).headD []))
    rw [instU_none ws (by omega), instU_none (ws.take 5) (by rw [List.length_take]; omega)]
theorem instU_read (ws : List (List UInt8)) (x : In) (hx : x.wf) (h : ∀ y : In, y.wf → okI y = true → wordsI y = ws → x = y) :
    instU ws = if okI x = true ∧ wordsI x = ws then some x else none := by
  cases hu : instU ws with
  | none =>
    rw [if_neg]
    rintro ⟨h1, h2⟩
    have h3 := instU_words x hx h1
    rw [h2, hu] at h3
    cases h3
  | some y =>
    obtain ⟨h1, h2⟩ := words_instU ws y hu
    obtain rfl := h y (instU_wf ws y hu) h2 h1
    rw [if_pos ⟨h2, h1⟩]

end Go.Proofs.YthopmlgfklhagaaGreatDoor
