/- The walk of the law EffectsReads. Conditions: those that the theorem states. -/
import Derived.Test.YthopmlgfklhagaaELv
import Derived.Test.YthopmlgfklhagaaERj
namespace Go.Proofs.Ythopmlgfklhagaa.effectsReads
open Go.RowKit
set_option linter.unusedVariables false

set_option maxRecDepth 100000 in
set_option maxHeartbeats 1000000 in
theorem walk (s : ByteArray) (w : World) (hs : s.size ≤ maxLen) :
    Calls Try.prog 5 #[.string s] w fun e w' => e = .returned (.bool true) ∧ w.grownBy w' none := by
  have hp := fun W => eread_any s W hs
  have hr := fun W => rread17_any s W hs
  go_enter Try.func5, Try.ntmps5
  go_wp2_with (go_at_call 8; refine (lives17_any _).mono ?_; rintro e w1 ⟨rfl, hg1⟩)
  refine (hp _).mono ?_
  rintro e w2 ⟨x, er, rfl, hT, hg2⟩
  have hga := World.grownBy_alloc w2 (.cells #[.int .i64 x.e, .int .i64 x.v.k, .int .i64 x.v.n, .string x.v.s, .int .i64 x.sl, .int .i64 x.p, .int .i64 x.o, .int .i64 x.k] 42) none
  have B2 := Rb.new 42 w2 x
  have G2 := grown_up (grown_up hg1 hg2) hga
  unfold Rc9.val
  go_upto_region 4 with fail
  generalize w2.alloc (.cells #[.int .i64 x.e, .int .i64 x.v.k, .int .i64 x.v.n, .string x.v.s, .int .i64 x.sl, .int .i64 x.p, .int .i64 x.o, .int .i64 x.k] 42) = W2 at *
  generalize w2.heap.size = m at *
  go_wp2_with fail
  refine (hr _).mono ?_
  rintro e w3 ⟨y, er2, rfl, hT2, hg3⟩
  obtain ⟨rfl, rfl⟩ := told_one hT hT2
  have hgb := World.grownBy_alloc w3 (.cells #[.int .i64 x.e, .int .i64 x.v.k, .int .i64 x.v.n, .string x.v.s, .int .i64 x.sl, .int .i64 x.p, .int .i64 x.o, .int .i64 x.k] 33) none
  have B3 := ((B2.kept hg3 (by simp)).kept hgb (by simp)).cs
  have C3 := (Rb.new 33 w3 x).cs
  have G3 := grown_up (grown_up G2 hg3) hgb
  unfold Rc9.val
  go_upto_region 5 with fail
  generalize w3.alloc (.cells #[.int .i64 x.e, .int .i64 x.v.k, .int .i64 x.v.n, .string x.v.s, .int .i64 x.sl, .int .i64 x.p, .int .i64 x.o, .int .i64 x.k] 33) = W3 at *
  generalize w3.heap.size = m2 at *
  obtain ⟨b0, b1, b2, b3, b4, b5, b6, b7⟩ := B3
  obtain ⟨c0, c1, c2, c3, c4, c5, c6, c7⟩ := C3
  have hsm := fun W => same17_any x W
  unfold Rc9.val at hsm
  clear hT hT2 B2
  go_wp2_with (go_at_call 16; refine (hsm _).mono ?_; rintro e w4 ⟨rfl, hg4⟩)
  go_ret
  exact ⟨rfl, grown_up G3 hg4⟩

end Go.Proofs.Ythopmlgfklhagaa.effectsReads
