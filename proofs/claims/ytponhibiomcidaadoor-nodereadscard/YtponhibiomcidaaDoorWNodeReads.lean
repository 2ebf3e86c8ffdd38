/- The walk of the law NodeReads. Conditions: those that the theorem states. -/
import Derived.Test.YtponhibiomcidaaDoorNLv
import Derived.Test.YtponhibiomcidaaDoorNRefE
import Derived.Test.YtponhibiomcidaaDoorNRefZ
import Derived.Test.YtponhibiomcidaaDoorNRdE
namespace Go.Proofs.YtponhibiomcidaaDoor.nodeReads
open Go.RowKit
set_option linter.unusedVariables false

set_option maxRecDepth 100000 in
set_option maxHeartbeats 1500000 in
theorem walk (s : ByteArray) (w : World) (hs : s.size ≤ maxLen) : Calls Tryd.prog 3 #[.string s] w fun e w' => e = .returned (.bool true) ∧ w.grownBy w' none := by
  obtain ⟨G, HGe⟩ : ∃ q, Hid (rdE s = q) := ⟨_, hide rfl⟩
  obtain ⟨k, Hk⟩ : ∃ q, Hid (rdO s = q) := ⟨_, hide rfl⟩
  have HR1 : Hid (∀ W : World, Calls Tryd.prog 5 #[.string s] W fun e w' => ∃ l b1 m1 o1 b2 m2 o2 b3 m3 o3, e = .returned (.tuple #[.agg #[.bool l, .slice b1 m1 o1, .slice b2 m2 o2, .slice b3 m3 o3], .int .i64 G]) ∧ Nv w'.heap.size w' (.agg #[.bool l, .slice b1 m1 o1, .slice b2 m2 o2, .slice b3 m3 o3]) k ∧ Kp none' W w') := by
    intro W
    refine (read9_any s W hs).mono ?_
    rintro e w' ⟨y, rfl, h1, h2⟩
    rw [HGe.out, Hk.out] at *
    obtain ⟨b1, o1, b2, o2, b3, o3, rfl⟩ := nv_open h1
    exact ⟨_, _, _, _, _, _, _, _, _, _, rfl, h1, h2⟩
  have HR2 : Hid (∀ W : World, Calls Tryd.prog 6 #[.string s] W fun e w' => ∃ l b1 m1 o1 b2 m2 o2 b3 m3 o3, e = .returned (.tuple #[.agg #[.bool l, .slice b1 m1 o1, .slice b2 m2 o2, .slice b3 m3 o3], .int .i64 G]) ∧ Nv w'.heap.size w' (.agg #[.bool l, .slice b1 m1 o1, .slice b2 m2 o2, .slice b3 m3 o3]) k ∧ Kp none' W w') := by
    intro W
    refine (rread9_any s W hs).mono ?_
    rintro e w' ⟨y, h0, h1, h2⟩
    have e1 : (if (readN s).isSome then (0 : Int) else 10) = G := HGe.out
    have e2 : (readN s).getD ⟨false, [], [], []⟩ = k := Hk.out
    rw [e1] at h0
    rw [e2] at h1
    subst h0
    obtain ⟨b1, o1, b2, o2, b3, o3, rfl⟩ := nv_open h1
    exact ⟨_, _, _, _, _, _, _, _, _, _, rfl, h1, h2⟩
  clear hs
  go_enter Tryd.func3, Tryd.ntmps3
  go_upto_region 3 with (first
    | (go_at_call 4; refine (lives9_any _).mono ?_; rintro e w1 ⟨rfl, hk1⟩)
    | fail)
  go_upto_region 4 with (first
    | (go_at_call 5; refine (HR1.out _).mono ?_; rintro e w3 ⟨l3, p1, n1, q1, p2, n2, q2, p3, n3, q3, rfl, hV3, hk3⟩)
    | fail)
  have n5 := Nb.new w3 l3 (.slice p1 n1 q1) (.slice p2 n2 q2) (.slice p3 n3 q3)
  have hka : Kp none' w3 (w3.alloc (.cells #[.bool l3, .slice p1 n1 q1, .slice p2 n2 q2, .slice p3 n3 q3] 27)) := Kp.alloc _ _ _
  obtain ⟨g5, Hg5⟩ : ∃ q, Hid (w3.heap.size = q) := ⟨_, rfl⟩
  rw [Hg5.out] at n5 ⊢
  generalize w3.alloc (.cells #[.bool l3, .slice p1 n1 q1, .slice p2 n2 q2, .slice p3 n3 q3] 27) = w4 at *
  have S4 := (hk1.thenN hk3).thenN hka
  have hV4 := hV3.keptN hka
  clear hk1 hk3 hka hV3
  go_upto_region 5 with (first
    | (go_at_call 6; refine (HR2.out _).mono ?_; rintro e w6 ⟨l6, r1, n6, t1, r2, n7, t2, r3, n8, t3, rfl, hV6, hk6⟩)
    | fail)
  have n9 := Nb.new w6 l6 (.slice r1 n6 t1) (.slice r2 n7 t2) (.slice r3 n8 t3)
  have hkb : Kp none' w6 (w6.alloc (.cells #[.bool l6, .slice r1 n6 t1, .slice r2 n7 t2, .slice r3 n8 t3] 27)) := Kp.alloc _ _ _
  obtain ⟨g9, Hg9⟩ : ∃ q, Hid (w6.heap.size = q) := ⟨_, rfl⟩
  rw [Hg9.out] at n9 ⊢
  generalize w6.alloc (.cells #[.bool l6, .slice r1 n6 t1, .slice r2 n7 t2, .slice r3 n8 t3] 27) = w7 at *
  have S7 := (S4.thenN hk6).thenN hkb
  have hV7 := hV6.keptN hkb
  have hV8 := (hV4.keptN hk6).keptN hkb
  have n5b := (n5.kept hk6 (fun h => h)).kept hkb (fun h => h)
  clear n5 hk6 hkb S4 hV4 hV6
  have x0 := n5b.c0
  have x1 := n5b.c1
  have x2 := n5b.c2
  have x3 := n5b.c3
  have z0 := n9.c0
  have z1 := n9.c1
  have z2 := n9.c2
  have z3 := n9.c3
  go_wp2_with (first
    | (go_at_call 7; refine (rsame_any _ _ k _ _ _ hV8 hV7).mono ?_; rintro e w8 ⟨rfl, hk8⟩)
    | fail)
  go_ret
  exact ⟨by simp, (S7.thenN hk8).grown⟩

end Go.Proofs.YtponhibiomcidaaDoor.nodeReads
