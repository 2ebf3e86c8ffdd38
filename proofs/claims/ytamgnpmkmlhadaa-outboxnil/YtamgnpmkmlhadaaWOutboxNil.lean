/- The walk of the law OutboxNil. Conditions: those that the theorem states. -/
import Derived.Test.YtamgnpmkmlhadaaOLv
import Derived.Test.YtamgnpmkmlhadaaOStep
namespace Go.Proofs.Ytamgnpmkmlhadaa.outboxNil
open Go.RowKit
set_option linter.unusedVariables false

set_option maxRecDepth 100000 in
set_option maxHeartbeats 2000000 in
theorem walk (o : Oo) (w : World) (ho : o.ok) : Calls Try.prog 7 #[.agg o.cells] w fun e w' => e = .returned (.bool true) ∧ w.grownBy w' none := by
  have HL := fun W => hide (olives_any W)
  obtain ⟨W0, e0, b0, k0⟩ := Ob.mk w o
  obtain ⟨_, hn, _, _, hf, ht, hv⟩ := ho
  unfold Oo.cells
  go_enter Try.func7, Try.ntmps7
  go_upto_region 1 with fail
  clear e0
  go_upto_region 3 with (go_at_call 8; refine (HL _).out.mono ?_; clear HL; rintro e w1 ⟨rfl, k1⟩)
  have b1 := b0.keptN k1
  obtain ⟨c0, c1, c2, c3, c4, c5, c6, c7, c8⟩ := b1.cs
  have HA := hide (onil_add o.m.f o.m.t o.m.v w1)
  unfold V.val at HA
  go_upto_region 5 with (go_at_call 16; refine HA.out.mono ?_; clear HA; rintro e w2 ⟨rfl, k2⟩)
  have b2 := b1.keptN k2
  clear c0 c1 c2 c3 c4 c5 c6 c7 c8
  obtain ⟨c0, c1, c2, c3, c4, c5, c6, c7, c8⟩ := b2.cs
  have H1 := hide (onil_from o.n o.k w2 hn)
  have H2 := hide (onil_ack o.n w2)
  have H3 := hide (onil_mark w2)
  have H4 := hide (onil_last w2)
  have H5 := hide (onil_len w2)
  go_wp2_with (first
    | (go_at_call 21; refine H1.out.mono ?_; rintro e w3 ⟨rfl, e3⟩; subst e3)
    | (go_at_call 18; refine H2.out.mono ?_; rintro e w3 ⟨rfl, e3⟩; subst e3)
    | (go_at_call 23; refine H3.out.mono ?_; rintro e w3 ⟨rfl, e3⟩; subst e3)
    | (go_at_call 24; refine H4.out.mono ?_; rintro e w3 ⟨rfl, e3⟩; subst e3)
    | (go_at_call 25; refine H5.out.mono ?_; rintro e w3 ⟨rfl, e3⟩; subst e3))
  go_ret
  exact ⟨rfl, ((k0.then k1).then k2).grown⟩

end Go.Proofs.Ytamgnpmkmlhadaa.outboxNil
