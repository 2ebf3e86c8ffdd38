/- What is sure behind a crash: plain mathematics. Conditions: those that each theorem states. -/
import Derived.Test.YtgfijbbibafdfaaGreatPMath
import Derived.Test.YtgfijbbibafdfaaGreatDCrash
namespace Go.Proofs.YtgfijbbibafdfaaGreat
open Go.RowKit
set_option linter.unusedVariables false

theorem pcr_out (D : Dv) (l : List Bool) (torn cut : Int) (k : Nat) : ∀ m, (∀ j, j < m → (unsL D).getD j 0 ≠ k) → crN D l torn cut m k = D.s k
  | 0, _ => rfl
  | m + 1, h => by
    rw [crN, upd, if_neg (fun e => h m (by omega) e.symm)]
    exact pcr_out D l torn cut k m (fun j hj => h j (by omega))
theorem crash_after (D : Dv) (l : List Bool) (torn cut : Int) : After D (D.crash l torn cut).s := by
  intro k hk hu
  show crN D l torn cut (unsL D).length k = D.s k
  refine pcr_out D l torn cut k _ (fun j hj he => ?_)
  rw [List.getD_eq_getElem?_getD, List.getElem?_eq_getElem hj] at he
  have hm : k ∈ unsL D := by
    have he' : (unsL D)[j] = k := he
    rw [← he']
    exact List.getElem_mem hj
  have := (List.mem_filter.1 hm).2
  rw [hu] at this
  cases this

end Go.Proofs.YtgfijbbibafdfaaGreat
