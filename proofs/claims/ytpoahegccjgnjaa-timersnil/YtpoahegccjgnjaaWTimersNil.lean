/- The walk of the law TimersNil. Conditions: those that the theorem states. -/
import Derived.Test.YtpoahegccjgnjaaYNew
namespace Go.Proofs.Ytpoahegccjgnjaa.timersNil
open Go.RowKit
set_option linter.unusedVariables false

set_option maxRecDepth 100000 in
set_option maxHeartbeats 1000000 in
theorem walk (id till : Int) (w : World) : Calls Try.prog 6 #[.int .i64 id, .int .i64 till] w fun e w' => e = .returned (.bool true) ∧ w.grownBy w' none := by
  have HL := hide (tlives_any w)
  go_enter Try.func6, Try.ntmps6
  go_upto_region 4 with (go_at_call 7; refine HL.out.mono ?_; clear HL; rintro e w1 ⟨rfl, k1⟩)
  have H1 := hide (tnil_set id till w1)
  have H2 := hide (tnil_next w1)
  have H3 := hide (tnil_till id w1)
  have H4 := hide (tnil_drop id w1)
  have H5 := hide (tnil_due till w1)
  have H6 := hide (tnil_len w1)
  go_wp2_with (first
    | (go_at_call 11; refine H1.out.mono ?_; rintro e w2 ⟨rfl, e2⟩; subst e2)
    | (go_at_call 18; refine H2.out.mono ?_; rintro e w2 ⟨rfl, e2⟩; subst e2)
    | (go_at_call 20; refine H3.out.mono ?_; rintro e w2 ⟨rfl, e2⟩; subst e2)
    | (go_at_call 13; refine H4.out.mono ?_; rintro e w2 ⟨rfl, e2⟩; subst e2)
    | (go_at_call 16; refine H5.out.mono ?_; rintro e w2 ⟨rfl, e2⟩; subst e2)
    | (go_at_call 19; refine H6.out.mono ?_; rintro e w2 ⟨rfl, e2⟩; subst e2))
  go_ret
  exact ⟨rfl, k1.grown⟩

end Go.Proofs.Ytpoahegccjgnjaa.timersNil
