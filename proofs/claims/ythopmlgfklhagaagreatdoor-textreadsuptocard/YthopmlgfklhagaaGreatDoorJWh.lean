/- Pairs of digits one behind the other, an instruction out of what was read, in plain words (no program). No conditions but those that each theorem states. -/
import Derived.Test.YthopmlgfklhagaaGreatDoorJWd
namespace Go.Proofs.YthopmlgfklhagaaGreatDoor
open Go Go.RowKit
set_option linter.unusedVariables false

theorem unhex_append : ∀ (p L q : List UInt8), unhex p = some L → unhex (p ++ q) = (unhex q).map (fun m => L ++ m)
  | [], L, q, h => by
    cases h
    rw [List.nil_append]
    cases unhex q <;> rfl
  | [_], L, q, h => by cases h
  | a :: b :: r, L, q, h => by
    show unhex (a :: b :: (r ++ q)) = _
    rw [unhex] at h ⊢
    cases ha : nibU a with
    | none => rw [ha] at h; cases h
    | some x =>
      cases hb : nibU b with
      | none => rw [ha, hb] at h; cases h
      | some y =>
        cases hr : unhex r with
        | none => rw [ha, hb, hr] at h; cases h
        | some l =>
          rw [ha, hb, hr] at h
          cases h
          rw [unhex_append r l q hr]
          cases unhex q <;> rfl
theorem unhex_bad (a b : UInt8) (r : List UInt8) (h : nibU a = none ∨ nibU b = none) : unhex (a :: b :: r) = none := by
  rw [unhex]
  rcases h with h | h
  · rw [h]
  · rw [h]
    cases nibU a <;> rfl
theorem unhex_two (a b : UInt8) (x y : Nat) (ha : nibU a = some x) (hb : nibU b = some y) : unhex [a, b] = some [UInt8.ofNat (16 * x + y)] := by
  rw [unhex, ha, hb]
  rfl
theorem unhex_odd : ∀ (l : List UInt8), l.length % 2 = 1 → unhex l = none
  | [], h => by simp at h
  | [_], _ => rfl
  | a :: b :: r, h => by
    have ih := unhex_odd r (by simp only [List.length_cons] at h; omega)
    rw [unhex, ih]
    cases nibU a <;> cases nibU b <;> rfl
/-- What an instruction's words tell, once they are as many as the Op's line has. -/
theorem instU_raw (ws : List (List UInt8)) (h1 : opOk (opU (ws.headD [])) = true) (h2 : ws.length = wantW (opU (ws.headD []))) :
    instU ws = if ((isW ws (nOps (opU (ws.headD []))) 0 && isW ws (nOps (opU (ws.headD []))) 1 && isW ws (nOps (opU (ws.headD []))) 2) && valIs (opU (ws.headD [])) ws && okI (rawI ws)) = true then some (rawI ws) else none := by
  unfold instU
  rw [h1, decide_eq_true h2]
  simp only [Bool.true_and]
theorem instU_bad (ws : List (List UInt8)) (h : ¬ (opOk (opU (ws.headD [])) = true ∧ ws.length = wantW (opU (ws.headD [])))) : instU ws = none := by
  by_cases h1 : opOk (opU (ws.headD [])) = true
  · exact instU_none ws (fun e => h ⟨h1, e⟩)
  · unfold instU
    rw [show opOk (opU (ws.headD [])) = false by simpa using h1]
    rfl

end Go.Proofs.YthopmlgfklhagaaGreatDoor
