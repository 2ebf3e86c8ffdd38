/- The walk of MachineLooks, over two tables and a key as they lie in memory. Conditions: those that each theorem states. -/
import Derived.Test.YthopmlgfklhagabDoorHTab
import Derived.Test.YthopmlgfklhagabDoorHLv
import Derived.Test.YthopmlgfklhagabDoorHJk
import Derived.Test.YthopmlgfklhagabDoorHJf
import Derived.Test.YthopmlgfklhagabDoorHSm
import Derived.Test.YthopmlgfklhagabDoorHJo
namespace Go.Proofs.YthopmlgfklhagabDoor
open Go Go.RowKit
set_option linter.unusedVariables false

set_option maxRecDepth 100000 in
set_option maxHeartbeats 2000000 in
theorem walk (tv mv : Value) (t m : List Wr) (k : V) (w : World) (ht : Rw Wr.cells 7 w tv t) (hm : Rw Wr.cells 7 w mv m) (hG : Glob w) (hn : t.length + m.length ≤ 1048576) :
    Calls Tryd.prog 3 #[tv, mv, k.val] w fun e w' => e = .returned (.bool true) ∧ w.grownBy w' none := by
  have HT := hide ht
  have HM := hide hm
  obtain ⟨ta, tc, rfl, _⟩ := ht
  obtain ⟨ma, mc, rfl, _⟩ := hm
  have hga := World.grownBy_alloc w (.cells #[.int .i64 k.k, .int .i64 k.n, .string k.s] 25) none
  have K0 := Vb.new w k
  have hl := mlives_any (w.alloc (.cells #[.int .i64 k.k, .int .i64 k.n, .string k.s] 25)) (hG.keptN hga)
  have hlk := fun W9 h => look_any (.slice ta t.length tc) t k W9 (HT.out.keptN h)
  have hrl := fun W9 h => rlook_any (.slice ta t.length tc) t k W9 (HT.out.keptN h)
  obtain ⟨d1, D1⟩ : ∃ d, Hid (obV (lookT t k) = d) := ⟨_, rfl⟩
  obtain ⟨b1, B1⟩ : ∃ b, Hid ((lookT t k).isSome = b) := ⟨_, rfl⟩
  obtain ⟨L, HLL⟩ : ∃ L, Hid (t ++ m = L) := ⟨_, rfl⟩
  obtain ⟨d2, D2⟩ : ∃ d, Hid (obV (lookT L k) = d) := ⟨_, rfl⟩
  obtain ⟨b2, B2⟩ : ∃ b, Hid ((lookT L k).isSome = b) := ⟨_, rfl⟩
  rw [D1.out, B1.out] at hlk hrl
  have HHas : Hid (∀ W9, w.grownBy W9 none → Calls Tryd.prog 8 #[.slice ta t.length tc, .slice ma m.length mc] W9 fun e w' => ∃ a c, e = .returned (.slice a L.length c) ∧ Rw Wr.cells 7 w' (.slice a L.length c) L ∧ W9.grownBy w' none) := fun W9 h => by
    have := has_any (.slice ta t.length tc) (.slice ma m.length mc) t m W9 (HT.out.keptN h) (HM.out.keptN h) (by omega)
    rw [HLL.out] at this
    refine this.mono ?_
    rintro e w' ⟨v, rfl, hR, hg⟩
    have hR2 := hR
    obtain ⟨a, c, rfl, _⟩ := hR
    exact ⟨a, c, rfl, hR2, hg⟩
  have HL2 : Hid (∀ v W9, Rw Wr.cells 7 W9 v L → Calls Tryd.prog 6 #[v, k.val] W9 fun e w' => e = .returned (.tuple #[d2.val, .bool b2]) ∧ W9.grownBy w' none) := fun v W9 h => by
    have := look_any v L k W9 h
    rw [D2.out, B2.out] at this
    exact this
  have HR2 : Hid (∀ v W9, Rw Wr.cells 7 W9 v L → Calls Tryd.prog 7 #[v, k.val] W9 fun e w' => e = .returned (.tuple #[d2.val, .bool b2]) ∧ W9.grownBy w' none) := fun v W9 h => by
    have := rlook_any v L k W9 h
    rw [D2.out, B2.out] at this
    exact this
  have HF1 := hide (fun W9 => m_first k W9)
  have HF2 := hide (fun W9 => rfirst_any k W9)
  have heq1 : ∀ W, (binOp .eql 25 (.agg #[.int .i64 d1.k, .int .i64 d1.n, .string d1.s]) (.agg #[.int .i64 d1.k, .int .i64 d1.n, .string d1.s])).run Tryd.prog W = .ok (.bool true) W := fun W => by rw [run_eqV, eqV_iff.2 rfl]
  have heq2 : ∀ W, (binOp .eql 25 (.agg #[.int .i64 d2.k, .int .i64 d2.n, .string d2.s]) (.agg #[.int .i64 d2.k, .int .i64 d2.n, .string d2.s])).run Tryd.prog W = .ok (.bool true) W := fun W => by rw [run_eqV, eqV_iff.2 rfl]
  have hb1 : (b1 == b1) = true := by simp
  have hb2 : (b2 == b2) = true := by simp
  unfold V.val at hlk hrl HL2 HR2 HF1 HF2 ⊢
  have k0 := K0.c0; have k1 := K0.c1; have k2 := K0.c2
  go_enter Tryd.func3, Tryd.ntmps3
  go_wp2_with (go_at_call 5; refine hl.mono ?_; rintro e w1 ⟨rfl, hg1⟩; have K1 := K0.kept hg1 (by simp); have k0 := K1.c0; have k1 := K1.c1; have k2 := K1.c2)
  have G1 := grown_up hga hg1
  refine (hlk _ G1).mono ?_
  rintro e w2 ⟨rfl, hg2⟩
  have gB := World.grownBy_alloc w2 (.cells #[.int .i64 d1.k, .int .i64 d1.n, .string d1.s] 25) none
  have P2 := Vb.new w2 d1
  have K2 := (K1.kept hg2 (by simp)).kept gB (by simp)
  have G2 := grown_up (grown_up G1 hg2) gB
  go_upto_region 4 with fail
  generalize w2.alloc (.cells #[.int .i64 d1.k, .int .i64 d1.n, .string d1.s] 25) = W2 at *
  generalize w2.heap.size = p1 at *
  clear k0 k1 k2 K0 K1 hga hg1 G1 hg2 gB hl hlk
  have k0 := K2.c0; have k1 := K2.c1; have k2 := K2.c2
  go_wp2_with fail
  refine (hrl _ G2).mono ?_
  rintro e w3 ⟨rfl, hg3⟩
  have gC := World.grownBy_alloc w3 (.cells #[.int .i64 d1.k, .int .i64 d1.n, .string d1.s] 25) none
  have P3 := Vb.new w3 d1
  have K3 := (K2.kept hg3 (by simp)).kept gC (by simp)
  have Q3 := (P2.kept hg3 (by simp)).kept gC (by simp)
  have G3 := grown_up (grown_up G2 hg3) gC
  go_upto_region 5 with fail
  generalize w3.alloc (.cells #[.int .i64 d1.k, .int .i64 d1.n, .string d1.s] 25) = W at *
  generalize w3.heap.size = p2 at *
  obtain ⟨q, HQ⟩ : ∃ q, Hid (w.heap.size = q) := ⟨_, rfl⟩
  have hqq := HQ.out
  rw [hqq] at K3
  clear k0 k1 k2 K2 P2 hg3 gC G2 hrl
  have k0 := K3.c0; have k1 := K3.c1; have k2 := K3.c2
  have dr := grown_dr W
  try rw [hqq]
  go_cut [11, 12] from 29 to 36 (fun t11 t12 W4 => ∃ p5, t11 = .pointer (some ⟨p5, 0, none⟩) ∧ t12 = .bool b2 ∧ Vb W4 p5 d2 ∧ W.heap.size ≤ p5 ∧ W.grownBy W4 none)
  case first =>
    refine wp_region_held_drew (S := fun W0 => W.grownBy W0 none) (by kernel_rfl) (dr) (fun hHeld => ?_)
    refine take_at (i := 0) (d := 30) (v := ?_) rfl rfl (by kernel_rfl) (by kernel_rfl) (by kernel_rfl) (fun _ _ _ h => h) (Or.inl ⟨by rfl, ?_⟩) (by assumption) ?_
    rotate_left
    · intro W hSW
      try dsimp only at hSW
      have g0 := cell_g k0 hSW
      have g1 := cell_g k1 hSW
      have g2 := cell_g k2 hSW
      go_simp
      try with_reducible rfl
    try simp only [Act.put, List.setIfInBounds_toArray, List.set_cons_zero, List.set_cons_succ]
    refine take_at (i := 1) (d := 31) (v := ?_) rfl rfl (by kernel_rfl) (by kernel_rfl) (by kernel_rfl) (fun _ _ _ h => h) (Or.inl ⟨by rfl, ?_⟩) (by assumption) ?_
    rotate_left
    · intro W hSW
      try dsimp only at hSW
      have g0 := cell_g k0 hSW
      have g1 := cell_g k1 hSW
      have g2 := cell_g k2 hSW
      go_simp
      try with_reducible rfl
    try simp only [Act.put, List.setIfInBounds_toArray, List.set_cons_zero, List.set_cons_succ]
    refine take_at (i := 3) (d := 33) (v := ?_) rfl rfl (by kernel_rfl) (by kernel_rfl) (by kernel_rfl) (fun _ _ _ h => h) (Or.inl ⟨by rfl, ?_⟩) (by assumption) ?_
    rotate_left
    · intro W hSW
      try dsimp only at hSW
      have g0 := cell_g k0 hSW
      have g1 := cell_g k1 hSW
      have g2 := cell_g k2 hSW
      go_simp
      try with_reducible rfl
    try simp only [Act.put, List.setIfInBounds_toArray, List.set_cons_zero, List.set_cons_succ]
    refine wpAnyH_ready (rs := [2, 8]) (by kernel_rfl) (by simp) ?_
    refine AllReadyH.cons rfl (fun K hK => ?_) ?_
    · go_simp
      go_wp2_with (go_at_call 8; refine (HHas.out _ (grown_up G3 dr)).mono ?_; rintro e y1 ⟨a6, c6, rfl, R1, g1⟩)
      have G1 := grown_up dr g1
      refine hK.out _ _ (G1) (fun hHeld => ?_)
      clear hK K
      try simp only [Act.put, List.setIfInBounds_toArray, List.set_cons_zero, List.set_cons_succ]
      refine wpAnyH_ready (rs := [4, 8]) (by kernel_rfl) (by simp) ?_
      refine AllReadyH.cons rfl (fun K hK => ?_) ?_
      · go_simp
        go_wp2_with (go_at_call 6; refine (HL2.out _ _ R1).mono ?_; rintro e y2 ⟨rfl, g2⟩)
        have G2 := grown_up G1 g2
        refine hK.out _ _ (G2) (fun hHeld => ?_)
        clear hK K
        try simp only [Act.put, List.setIfInBounds_toArray, List.set_cons_zero, List.set_cons_succ]
        refine take_at (i := 5) (d := 29) (v := ?_) rfl rfl (by kernel_rfl) (by kernel_rfl) (by kernel_rfl) (fun _ _ _ h => h) (Or.inl ⟨by rfl, ?_⟩) (by assumption) ?_
        rotate_left
        · intro W hSW
          try dsimp only at hSW
          go_simp
          try with_reducible rfl
        try simp only [Act.put, List.setIfInBounds_toArray, List.set_cons_zero, List.set_cons_succ]
        refine take_at (i := 6) (d := 35) (v := ?_) rfl rfl (by kernel_rfl) (by kernel_rfl) (by kernel_rfl) (fun _ _ _ h => h) (Or.inl ⟨by rfl, ?_⟩) (by assumption) ?_
        rotate_left
        · intro W hSW
          try dsimp only at hSW
          go_simp
          try with_reducible rfl
        try simp only [Act.put, List.setIfInBounds_toArray, List.set_cons_zero, List.set_cons_succ]
        refine take_at (i := 7) (d := 36) (v := ?_) rfl rfl (by kernel_rfl) (by kernel_rfl) (by kernel_rfl) (fun _ _ _ h => h) (Or.inl ⟨by rfl, ?_⟩) (by assumption) ?_
        rotate_left
        · intro W hSW
          try dsimp only at hSW
          go_simp
          try with_reducible rfl
        try simp only [Act.put, List.setIfInBounds_toArray, List.set_cons_zero, List.set_cons_succ]
        refine wpAnyH_ready (rs := [8]) (by kernel_rfl) (by simp) ?_
        refine AllReadyH.cons rfl (fun K hK => ?_) ?_
        · go_simp
          have G3 : W.grownBy (World.alloc y2 (.cells #[.int .i64 0, .int .i64 0, .string ⟨#[]⟩] 25)) none := grown_up G2 (World.grownBy_alloc _ _ none)
          refine hK.out _ _ (G3) (fun hHeld => ?_)
          clear hK K
          try simp only [Act.put, List.setIfInBounds_toArray, List.set_cons_zero, List.set_cons_succ]
          have U3 : Vb (World.alloc y2 (.cells #[.int .i64 0, .int .i64 0, .string ⟨#[]⟩] 25)) y2.heap.size ⟨0, 0, ⟨#[]⟩⟩ := Vb.new _ ⟨0, 0, ⟨#[]⟩⟩
          have hp5 : W.heap.size ≤ y2.heap.size := G2.size
          generalize (World.alloc y2 (.cells #[.int .i64 0, .int .i64 0, .string ⟨#[]⟩] 25)) = y3 at *
          obtain ⟨p5, hq5⟩ : ∃ p5, y2.heap.size = p5 := ⟨_, rfl⟩
          have hp5 : W.heap.size ≤ p5 := hq5 ▸ hp5
          rw [hq5] at U3 ⊢
          refine wpAnyH_ready (rs := [9]) (by kernel_rfl) (by simp) ?_
          refine AllReadyH.cons rfl (fun K hK => ?_) ?_
          · have v0 := U3.c0
            have v1 := U3.c1
            have v2 := U3.c2
            have vf := U3.fz
            go_simp
            have hP := vb_set U3 d2
            have hGe := grown_new G3 hP.2 (fun j e => by cases e; exact hp5)
            refine hK.out _ _ (hGe) (fun hHeld => ?_)
            clear hK K
            try simp only [Act.put, List.setIfInBounds_toArray, List.set_cons_zero, List.set_cons_succ]
            refine take_at (i := 10) (d := 12) (v := ?_) rfl rfl (by kernel_rfl) (by kernel_rfl) (by kernel_rfl) (fun _ _ _ h => h) (Or.inl ⟨by rfl, ?_⟩) (by assumption) ?_
            rotate_left
            · intro W hSW
              try dsimp only at hSW
              go_simp
              try with_reducible rfl
            try simp only [Act.put, List.setIfInBounds_toArray, List.set_cons_zero, List.set_cons_succ]
            refine wpAnyH_done (by kernel_rfl) ?_ _
            go_wp2_with fail
            go_meet
            exact ⟨p5, rfl, rfl, hP.1, hp5, hGe⟩
          exact AllReadyH.nil
        exact AllReadyH.nil
      refine AllReadyH.cons rfl (fun K hK => ?_) ?_
      · go_simp
        have G2 : W.grownBy (World.alloc y1 (.cells #[.int .i64 0, .int .i64 0, .string ⟨#[]⟩] 25)) none := grown_up G1 (World.grownBy_alloc _ _ none)
        refine hK.out _ _ (G2) (fun hHeld => ?_)
        clear hK K
        try simp only [Act.put, List.setIfInBounds_toArray, List.set_cons_zero, List.set_cons_succ]
        have U2 : Vb (World.alloc y1 (.cells #[.int .i64 0, .int .i64 0, .string ⟨#[]⟩] 25)) y1.heap.size ⟨0, 0, ⟨#[]⟩⟩ := Vb.new _ ⟨0, 0, ⟨#[]⟩⟩
        have hp5 : W.heap.size ≤ y1.heap.size := G1.size
        have R2 := R1.keptN (World.grownBy_alloc y1 (.cells #[.int .i64 0, .int .i64 0, .string ⟨#[]⟩] 25) none)
        generalize (World.alloc y1 (.cells #[.int .i64 0, .int .i64 0, .string ⟨#[]⟩] 25)) = y2 at *
        obtain ⟨p5, hq5⟩ : ∃ p5, y1.heap.size = p5 := ⟨_, rfl⟩
        have hp5 : W.heap.size ≤ p5 := hq5 ▸ hp5
        rw [hq5] at U2 ⊢
        refine wpAnyH_ready (rs := [4]) (by kernel_rfl) (by simp) ?_
        refine AllReadyH.cons rfl (fun K hK => ?_) ?_
        · go_simp
          go_wp2_with (go_at_call 6; refine (HL2.out _ _ R2).mono ?_; rintro e y3 ⟨rfl, g3⟩)
          have G3 := grown_up G2 g3
          have U3 := U2.kept g3 (by simp)
          refine hK.out _ _ (G3) (fun hHeld => ?_)
          clear hK K
          try simp only [Act.put, List.setIfInBounds_toArray, List.set_cons_zero, List.set_cons_succ]
          refine take_at (i := 5) (d := 29) (v := ?_) rfl rfl (by kernel_rfl) (by kernel_rfl) (by kernel_rfl) (fun _ _ _ h => h) (Or.inl ⟨by rfl, ?_⟩) (by assumption) ?_
          rotate_left
          · intro W hSW
            try dsimp only at hSW
            go_simp
            try with_reducible rfl
          try simp only [Act.put, List.setIfInBounds_toArray, List.set_cons_zero, List.set_cons_succ]
          refine take_at (i := 6) (d := 35) (v := ?_) rfl rfl (by kernel_rfl) (by kernel_rfl) (by kernel_rfl) (fun _ _ _ h => h) (Or.inl ⟨by rfl, ?_⟩) (by assumption) ?_
          rotate_left
          · intro W hSW
            try dsimp only at hSW
            go_simp
            try with_reducible rfl
          try simp only [Act.put, List.setIfInBounds_toArray, List.set_cons_zero, List.set_cons_succ]
          refine take_at (i := 7) (d := 36) (v := ?_) rfl rfl (by kernel_rfl) (by kernel_rfl) (by kernel_rfl) (fun _ _ _ h => h) (Or.inl ⟨by rfl, ?_⟩) (by assumption) ?_
          rotate_left
          · intro W hSW
            try dsimp only at hSW
            go_simp
            try with_reducible rfl
          try simp only [Act.put, List.setIfInBounds_toArray, List.set_cons_zero, List.set_cons_succ]
          refine wpAnyH_ready (rs := [9]) (by kernel_rfl) (by simp) ?_
          refine AllReadyH.cons rfl (fun K hK => ?_) ?_
          · have v0 := U3.c0
            have v1 := U3.c1
            have v2 := U3.c2
            have vf := U3.fz
            go_simp
            have hP := vb_set U3 d2
            have hGe := grown_new G3 hP.2 (fun j e => by cases e; exact hp5)
            refine hK.out _ _ (hGe) (fun hHeld => ?_)
            clear hK K
            try simp only [Act.put, List.setIfInBounds_toArray, List.set_cons_zero, List.set_cons_succ]
            refine take_at (i := 10) (d := 12) (v := ?_) rfl rfl (by kernel_rfl) (by kernel_rfl) (by kernel_rfl) (fun _ _ _ h => h) (Or.inl ⟨by rfl, ?_⟩) (by assumption) ?_
            rotate_left
            · intro W hSW
              try dsimp only at hSW
              go_simp
              try with_reducible rfl
            try simp only [Act.put, List.setIfInBounds_toArray, List.set_cons_zero, List.set_cons_succ]
            refine wpAnyH_done (by kernel_rfl) ?_ _
            go_wp2_with fail
            go_meet
            exact ⟨p5, rfl, rfl, hP.1, hp5, hGe⟩
          exact AllReadyH.nil
        exact AllReadyH.nil
      exact AllReadyH.nil
    refine AllReadyH.cons rfl (fun K hK => ?_) ?_
    · go_simp
      have G1 : W.grownBy (World.drew (World.alloc W (.cells #[.int .i64 0, .int .i64 0, .string ⟨#[]⟩] 25))) none := grown_up (World.grownBy_alloc W (.cells #[.int .i64 0, .int .i64 0, .string ⟨#[]⟩] 25) none) (grown_dr _)
      refine hK.out _ _ (G1) (fun hHeld => ?_)
      clear hK K
      try simp only [Act.put, List.setIfInBounds_toArray, List.set_cons_zero, List.set_cons_succ]
      have U1 : Vb (World.drew (World.alloc W (.cells #[.int .i64 0, .int .i64 0, .string ⟨#[]⟩] 25))) W.heap.size ⟨0, 0, ⟨#[]⟩⟩ := (Vb.new W ⟨0, 0, ⟨#[]⟩⟩).kept (grown_dr _) (by simp)
      have hp5 : W.heap.size ≤ W.heap.size := Nat.le_refl _
      generalize (World.drew (World.alloc W (.cells #[.int .i64 0, .int .i64 0, .string ⟨#[]⟩] 25))) = y1 at *
      obtain ⟨p5, hq5⟩ : ∃ p5, W.heap.size = p5 := ⟨_, rfl⟩
      have hp5 : W.heap.size ≤ p5 := hq5 ▸ hp5
      rw [hq5] at U1 ⊢
      refine wpAnyH_ready (rs := [2]) (by kernel_rfl) (by simp) ?_
      refine AllReadyH.cons rfl (fun K hK => ?_) ?_
      · go_simp
        go_wp2_with (go_at_call 8; refine (HHas.out _ (grown_up G3 G1)).mono ?_; rintro e y2 ⟨a6, c6, rfl, R2, g2⟩)
        have G2 := grown_up G1 g2
        have U2 := U1.kept g2 (by simp)
        refine hK.out _ _ (G2) (fun hHeld => ?_)
        clear hK K
        try simp only [Act.put, List.setIfInBounds_toArray, List.set_cons_zero, List.set_cons_succ]
        refine wpAnyH_ready (rs := [4]) (by kernel_rfl) (by simp) ?_
        refine AllReadyH.cons rfl (fun K hK => ?_) ?_
        · go_simp
          go_wp2_with (go_at_call 6; refine (HL2.out _ _ R2).mono ?_; rintro e y3 ⟨rfl, g3⟩)
          have G3 := grown_up G2 g3
          have U3 := U2.kept g3 (by simp)
          refine hK.out _ _ (G3) (fun hHeld => ?_)
          clear hK K
          try simp only [Act.put, List.setIfInBounds_toArray, List.set_cons_zero, List.set_cons_succ]
          refine take_at (i := 5) (d := 29) (v := ?_) rfl rfl (by kernel_rfl) (by kernel_rfl) (by kernel_rfl) (fun _ _ _ h => h) (Or.inl ⟨by rfl, ?_⟩) (by assumption) ?_
          rotate_left
          · intro W hSW
            try dsimp only at hSW
            go_simp
            try with_reducible rfl
          try simp only [Act.put, List.setIfInBounds_toArray, List.set_cons_zero, List.set_cons_succ]
          refine take_at (i := 6) (d := 35) (v := ?_) rfl rfl (by kernel_rfl) (by kernel_rfl) (by kernel_rfl) (fun _ _ _ h => h) (Or.inl ⟨by rfl, ?_⟩) (by assumption) ?_
          rotate_left
          · intro W hSW
            try dsimp only at hSW
            go_simp
            try with_reducible rfl
          try simp only [Act.put, List.setIfInBounds_toArray, List.set_cons_zero, List.set_cons_succ]
          refine take_at (i := 7) (d := 36) (v := ?_) rfl rfl (by kernel_rfl) (by kernel_rfl) (by kernel_rfl) (fun _ _ _ h => h) (Or.inl ⟨by rfl, ?_⟩) (by assumption) ?_
          rotate_left
          · intro W hSW
            try dsimp only at hSW
            go_simp
            try with_reducible rfl
          try simp only [Act.put, List.setIfInBounds_toArray, List.set_cons_zero, List.set_cons_succ]
          refine wpAnyH_ready (rs := [9]) (by kernel_rfl) (by simp) ?_
          refine AllReadyH.cons rfl (fun K hK => ?_) ?_
          · have v0 := U3.c0
            have v1 := U3.c1
            have v2 := U3.c2
            have vf := U3.fz
            go_simp
            have hP := vb_set U3 d2
            have hGe := grown_new G3 hP.2 (fun j e => by cases e; exact hp5)
            refine hK.out _ _ (hGe) (fun hHeld => ?_)
            clear hK K
            try simp only [Act.put, List.setIfInBounds_toArray, List.set_cons_zero, List.set_cons_succ]
            refine take_at (i := 10) (d := 12) (v := ?_) rfl rfl (by kernel_rfl) (by kernel_rfl) (by kernel_rfl) (fun _ _ _ h => h) (Or.inl ⟨by rfl, ?_⟩) (by assumption) ?_
            rotate_left
            · intro W hSW
              try dsimp only at hSW
              go_simp
              try with_reducible rfl
            try simp only [Act.put, List.setIfInBounds_toArray, List.set_cons_zero, List.set_cons_succ]
            refine wpAnyH_done (by kernel_rfl) ?_ _
            go_wp2_with fail
            go_meet
            exact ⟨p5, rfl, rfl, hP.1, hp5, hGe⟩
          exact AllReadyH.nil
        exact AllReadyH.nil
      exact AllReadyH.nil
    exact AllReadyH.nil
  case rest =>
    obtain ⟨p3, rfl, rfl, V4, hp4, hg4⟩ := hcut
    have G4 := grown_up G3 hg4
    have K4 := K3.kept hg4 (by simp)
    have Q4 := Q3.kept hg4 (by simp)
    have P4 := P3.kept hg4 (by simp)
    clear k0 k1 k2 dr K3 Q3 P3 G3 hg4 hp4
    go_upto_region 6 with fail
    have k0 := K4.c0; have k1 := K4.c1; have k2 := K4.c2
    have dr := grown_dr wc
    go_cut [13, 14] from 37 to 45 (fun t13 t14 W5 => ∃ p5, t13 = .pointer (some ⟨p5, 0, none⟩) ∧ t14 = .bool b2 ∧ Vb W5 p5 d2 ∧ wc.heap.size ≤ p5 ∧ wc.grownBy W5 none)
    case first =>
      refine wp_region_held_drew (S := fun W0 => wc.grownBy W0 none) (by kernel_rfl) (dr) (fun hHeld => ?_)
      refine take_at (i := 0) (d := 38) (v := ?_) rfl rfl (by kernel_rfl) (by kernel_rfl) (by kernel_rfl) (fun _ _ _ h => h) (Or.inl ⟨by rfl, ?_⟩) (by assumption) ?_
      rotate_left
      · intro W hSW
        try dsimp only at hSW
        have g0 := cell_g k0 hSW
        have g1 := cell_g k1 hSW
        have g2 := cell_g k2 hSW
        go_simp
        try with_reducible rfl
      try simp only [Act.put, List.setIfInBounds_toArray, List.set_cons_zero, List.set_cons_succ]
      refine take_at (i := 2) (d := 40) (v := ?_) rfl rfl (by kernel_rfl) (by kernel_rfl) (by kernel_rfl) (fun _ _ _ h => h) (Or.inl ⟨by rfl, ?_⟩) (by assumption) ?_
      rotate_left
      · intro W hSW
        try dsimp only at hSW
        have g0 := cell_g k0 hSW
        have g1 := cell_g k1 hSW
        have g2 := cell_g k2 hSW
        go_simp
        try with_reducible rfl
      try simp only [Act.put, List.setIfInBounds_toArray, List.set_cons_zero, List.set_cons_succ]
      refine take_at (i := 4) (d := 42) (v := ?_) rfl rfl (by kernel_rfl) (by kernel_rfl) (by kernel_rfl) (fun _ _ _ h => h) (Or.inl ⟨by rfl, ?_⟩) (by assumption) ?_
      rotate_left
      · intro W hSW
        try dsimp only at hSW
        have g0 := cell_g k0 hSW
        have g1 := cell_g k1 hSW
        have g2 := cell_g k2 hSW
        go_simp
        try with_reducible rfl
      try simp only [Act.put, List.setIfInBounds_toArray, List.set_cons_zero, List.set_cons_succ]
      refine wpAnyH_ready (rs := [1, 9]) (by kernel_rfl) (by simp) ?_
      refine AllReadyH.cons rfl (fun K hK => ?_) ?_
      · obtain ⟨va, y1, hrA, O1, g1⟩ := app_wr 22 Tryd.underlying22 wc.drew wc.drew.heap.size (.slice none 0 0) (.slice ta t.length tc) [] t OwR.nil (HT.out.keptN (grown_up G4 dr)) (Nat.le_refl _) (by simp; omega)
        have g1 : wc.drew.grownBy y1 none := g1
        have hbA := dr.size
        have hbB := g1.size
        obtain ⟨bA, HbA⟩ : ∃ b, wc.drew.heap.size = b := ⟨_, rfl⟩
        rw [HbA] at O1 hbA hbB
        have G1 := grown_up dr g1
        refine hstep_app 39 (by rfl) (by rfl) (.const (.slice none 0 0)) (.tmp 38) 22 22 22 (by rfl) (by rfl) (.slice none 0 0) (.slice ta t.length tc) (by rfl) (by rfl) hrA ?_
        refine hK.out _ _ (G1) (fun hHeld => ?_)
        clear hK K
        try simp only [Act.put, List.setIfInBounds_toArray, List.set_cons_zero, List.set_cons_succ]
        refine wpAnyH_ready (rs := [3, 9]) (by kernel_rfl) (by simp) ?_
        refine AllReadyH.cons rfl (fun K hK => ?_) ?_
        · obtain ⟨vb, y2, hrB, OB, g2⟩ := app_wr 22 Tryd.underlying22 y1 bA va (.slice ma m.length mc) ([] ++ t) m O1 (HM.out.keptN (grown_up G4 G1)) hbB (by simp; omega)
          have G2 := grown_new G1 g2 (fun j e => by have := (O1.lt j e).1; omega)
          have R2 : Rw Wr.cells 7 y2 vb L := by have := OB.rw clW; rw [List.nil_append, HLL.out] at this; exact this
          refine hstep_app 41 (by rfl) (by rfl) (.tmp 39) (.tmp 40) 22 22 22 (by rfl) (by rfl) va (.slice ma m.length mc) (by rfl) (by rfl) hrB ?_
          refine hK.out _ _ (G2) (fun hHeld => ?_)
          clear hK K
          try simp only [Act.put, List.setIfInBounds_toArray, List.set_cons_zero, List.set_cons_succ]
          refine wpAnyH_ready (rs := [5, 9]) (by kernel_rfl) (by simp) ?_
          refine AllReadyH.cons rfl (fun K hK => ?_) ?_
          · go_simp
            go_wp2_with (go_at_call 7; refine (HR2.out _ _ R2).mono ?_; rintro e y3 ⟨rfl, g3⟩)
            have G3 := grown_up G2 g3
            refine hK.out _ _ (G3) (fun hHeld => ?_)
            clear hK K
            try simp only [Act.put, List.setIfInBounds_toArray, List.set_cons_zero, List.set_cons_succ]
            refine take_at (i := 6) (d := 37) (v := ?_) rfl rfl (by kernel_rfl) (by kernel_rfl) (by kernel_rfl) (fun _ _ _ h => h) (Or.inl ⟨by rfl, ?_⟩) (by assumption) ?_
            rotate_left
            · intro W hSW
              try dsimp only at hSW
              go_simp
              try with_reducible rfl
            try simp only [Act.put, List.setIfInBounds_toArray, List.set_cons_zero, List.set_cons_succ]
            refine take_at (i := 7) (d := 44) (v := ?_) rfl rfl (by kernel_rfl) (by kernel_rfl) (by kernel_rfl) (fun _ _ _ h => h) (Or.inl ⟨by rfl, ?_⟩) (by assumption) ?_
            rotate_left
            · intro W hSW
              try dsimp only at hSW
              go_simp
              try with_reducible rfl
            try simp only [Act.put, List.setIfInBounds_toArray, List.set_cons_zero, List.set_cons_succ]
            refine take_at (i := 8) (d := 45) (v := ?_) rfl rfl (by kernel_rfl) (by kernel_rfl) (by kernel_rfl) (fun _ _ _ h => h) (Or.inl ⟨by rfl, ?_⟩) (by assumption) ?_
            rotate_left
            · intro W hSW
              try dsimp only at hSW
              go_simp
              try with_reducible rfl
            try simp only [Act.put, List.setIfInBounds_toArray, List.set_cons_zero, List.set_cons_succ]
            refine wpAnyH_ready (rs := [9]) (by kernel_rfl) (by simp) ?_
            refine AllReadyH.cons rfl (fun K hK => ?_) ?_
            · go_simp
              have G4 : wc.grownBy (World.alloc y3 (.cells #[.int .i64 0, .int .i64 0, .string ⟨#[]⟩] 25)) none := grown_up G3 (World.grownBy_alloc _ _ none)
              refine hK.out _ _ (G4) (fun hHeld => ?_)
              clear hK K
              try simp only [Act.put, List.setIfInBounds_toArray, List.set_cons_zero, List.set_cons_succ]
              have U4 : Vb (World.alloc y3 (.cells #[.int .i64 0, .int .i64 0, .string ⟨#[]⟩] 25)) y3.heap.size ⟨0, 0, ⟨#[]⟩⟩ := Vb.new _ ⟨0, 0, ⟨#[]⟩⟩
              have hp5 : wc.heap.size ≤ y3.heap.size := G3.size
              generalize (World.alloc y3 (.cells #[.int .i64 0, .int .i64 0, .string ⟨#[]⟩] 25)) = y4 at *
              obtain ⟨p5, hq5⟩ : ∃ p5, y3.heap.size = p5 := ⟨_, rfl⟩
              have hp5 : wc.heap.size ≤ p5 := hq5 ▸ hp5
              rw [hq5] at U4 ⊢
              refine wpAnyH_ready (rs := [10]) (by kernel_rfl) (by simp) ?_
              refine AllReadyH.cons rfl (fun K hK => ?_) ?_
              · have v0 := U4.c0
                have v1 := U4.c1
                have v2 := U4.c2
                have vf := U4.fz
                go_simp
                have hP := vb_set U4 d2
                have hGe := grown_new G4 hP.2 (fun j e => by cases e; exact hp5)
                refine hK.out _ _ (hGe) (fun hHeld => ?_)
                clear hK K
                try simp only [Act.put, List.setIfInBounds_toArray, List.set_cons_zero, List.set_cons_succ]
                refine take_at (i := 11) (d := 14) (v := ?_) rfl rfl (by kernel_rfl) (by kernel_rfl) (by kernel_rfl) (fun _ _ _ h => h) (Or.inl ⟨by rfl, ?_⟩) (by assumption) ?_
                rotate_left
                · intro W hSW
                  try dsimp only at hSW
                  go_simp
                  try with_reducible rfl
                try simp only [Act.put, List.setIfInBounds_toArray, List.set_cons_zero, List.set_cons_succ]
                refine wpAnyH_done (by kernel_rfl) ?_ _
                go_wp2_with fail
                go_meet
                exact ⟨p5, rfl, rfl, hP.1, hp5, hGe⟩
              exact AllReadyH.nil
            exact AllReadyH.nil
          refine AllReadyH.cons rfl (fun K hK => ?_) ?_
          · go_simp
            have G3 : wc.grownBy (World.alloc y2 (.cells #[.int .i64 0, .int .i64 0, .string ⟨#[]⟩] 25)) none := grown_up G2 (World.grownBy_alloc _ _ none)
            refine hK.out _ _ (G3) (fun hHeld => ?_)
            clear hK K
            try simp only [Act.put, List.setIfInBounds_toArray, List.set_cons_zero, List.set_cons_succ]
            have U3 : Vb (World.alloc y2 (.cells #[.int .i64 0, .int .i64 0, .string ⟨#[]⟩] 25)) y2.heap.size ⟨0, 0, ⟨#[]⟩⟩ := Vb.new _ ⟨0, 0, ⟨#[]⟩⟩
            have hp5 : wc.heap.size ≤ y2.heap.size := G2.size
            have R3 := R2.keptN (World.grownBy_alloc y2 (.cells #[.int .i64 0, .int .i64 0, .string ⟨#[]⟩] 25) none)
            generalize (World.alloc y2 (.cells #[.int .i64 0, .int .i64 0, .string ⟨#[]⟩] 25)) = y3 at *
            obtain ⟨p5, hq5⟩ : ∃ p5, y2.heap.size = p5 := ⟨_, rfl⟩
            have hp5 : wc.heap.size ≤ p5 := hq5 ▸ hp5
            rw [hq5] at U3 ⊢
            refine wpAnyH_ready (rs := [5]) (by kernel_rfl) (by simp) ?_
            refine AllReadyH.cons rfl (fun K hK => ?_) ?_
            · go_simp
              go_wp2_with (go_at_call 7; refine (HR2.out _ _ R3).mono ?_; rintro e y4 ⟨rfl, g4⟩)
              have G4 := grown_up G3 g4
              have U4 := U3.kept g4 (by simp)
              refine hK.out _ _ (G4) (fun hHeld => ?_)
              clear hK K
              try simp only [Act.put, List.setIfInBounds_toArray, List.set_cons_zero, List.set_cons_succ]
              refine take_at (i := 6) (d := 37) (v := ?_) rfl rfl (by kernel_rfl) (by kernel_rfl) (by kernel_rfl) (fun _ _ _ h => h) (Or.inl ⟨by rfl, ?_⟩) (by assumption) ?_
              rotate_left
              · intro W hSW
                try dsimp only at hSW
                go_simp
                try with_reducible rfl
              try simp only [Act.put, List.setIfInBounds_toArray, List.set_cons_zero, List.set_cons_succ]
              refine take_at (i := 7) (d := 44) (v := ?_) rfl rfl (by kernel_rfl) (by kernel_rfl) (by kernel_rfl) (fun _ _ _ h => h) (Or.inl ⟨by rfl, ?_⟩) (by assumption) ?_
              rotate_left
              · intro W hSW
                try dsimp only at hSW
                go_simp
                try with_reducible rfl
              try simp only [Act.put, List.setIfInBounds_toArray, List.set_cons_zero, List.set_cons_succ]
              refine take_at (i := 8) (d := 45) (v := ?_) rfl rfl (by kernel_rfl) (by kernel_rfl) (by kernel_rfl) (fun _ _ _ h => h) (Or.inl ⟨by rfl, ?_⟩) (by assumption) ?_
              rotate_left
              · intro W hSW
                try dsimp only at hSW
                go_simp
                try with_reducible rfl
              try simp only [Act.put, List.setIfInBounds_toArray, List.set_cons_zero, List.set_cons_succ]
              refine wpAnyH_ready (rs := [10]) (by kernel_rfl) (by simp) ?_
              refine AllReadyH.cons rfl (fun K hK => ?_) ?_
              · have v0 := U4.c0
                have v1 := U4.c1
                have v2 := U4.c2
                have vf := U4.fz
                go_simp
                have hP := vb_set U4 d2
                have hGe := grown_new G4 hP.2 (fun j e => by cases e; exact hp5)
                refine hK.out _ _ (hGe) (fun hHeld => ?_)
                clear hK K
                try simp only [Act.put, List.setIfInBounds_toArray, List.set_cons_zero, List.set_cons_succ]
                refine take_at (i := 11) (d := 14) (v := ?_) rfl rfl (by kernel_rfl) (by kernel_rfl) (by kernel_rfl) (fun _ _ _ h => h) (Or.inl ⟨by rfl, ?_⟩) (by assumption) ?_
                rotate_left
                · intro W hSW
                  try dsimp only at hSW
                  go_simp
                  try with_reducible rfl
                try simp only [Act.put, List.setIfInBounds_toArray, List.set_cons_zero, List.set_cons_succ]
                refine wpAnyH_done (by kernel_rfl) ?_ _
                go_wp2_with fail
                go_meet
                exact ⟨p5, rfl, rfl, hP.1, hp5, hGe⟩
              exact AllReadyH.nil
            exact AllReadyH.nil
          exact AllReadyH.nil
        refine AllReadyH.cons rfl (fun K hK => ?_) ?_
        · go_simp
          have G2 : wc.grownBy (World.alloc y1 (.cells #[.int .i64 0, .int .i64 0, .string ⟨#[]⟩] 25)) none := grown_up G1 (World.grownBy_alloc _ _ none)
          refine hK.out _ _ (G2) (fun hHeld => ?_)
          clear hK K
          try simp only [Act.put, List.setIfInBounds_toArray, List.set_cons_zero, List.set_cons_succ]
          have U2 : Vb (World.alloc y1 (.cells #[.int .i64 0, .int .i64 0, .string ⟨#[]⟩] 25)) y1.heap.size ⟨0, 0, ⟨#[]⟩⟩ := Vb.new _ ⟨0, 0, ⟨#[]⟩⟩
          have hp5 : wc.heap.size ≤ y1.heap.size := G1.size
          have hpa : ∀ j, va.ownBlock = some j → j < y1.heap.size := fun j e => (O1.lt j e).2
          have hbB : bA ≤ (World.alloc y1 (.cells #[.int .i64 0, .int .i64 0, .string ⟨#[]⟩] 25)).heap.size := by have := (World.grownBy_alloc y1 (.cells #[.int .i64 0, .int .i64 0, .string ⟨#[]⟩] 25) none).size; omega
          have O2 := O1.keptN (World.grownBy_alloc y1 (.cells #[.int .i64 0, .int .i64 0, .string ⟨#[]⟩] 25) none)
          generalize (World.alloc y1 (.cells #[.int .i64 0, .int .i64 0, .string ⟨#[]⟩] 25)) = y2 at *
          obtain ⟨p5, hq5⟩ : ∃ p5, y1.heap.size = p5 := ⟨_, rfl⟩
          have hp5 : wc.heap.size ≤ p5 := hq5 ▸ hp5
          rw [hq5] at U2 ⊢
          refine wpAnyH_ready (rs := [3]) (by kernel_rfl) (by simp) ?_
          refine AllReadyH.cons rfl (fun K hK => ?_) ?_
          · obtain ⟨vb, y3, hrB, OB, g3⟩ := app_wr 22 Tryd.underlying22 y2 bA va (.slice ma m.length mc) ([] ++ t) m O2 (HM.out.keptN (grown_up G4 G2)) hbB (by simp; omega)
            have G3 := grown_new G2 g3 (fun j e => by have := (O2.lt j e).1; omega)
            have U3 := U2.kept g3 (fun e => by have h9 := O2.lt _ e.symm; have := hpa _ e.symm; omega)
            have R3 : Rw Wr.cells 7 y3 vb L := by have := OB.rw clW; rw [List.nil_append, HLL.out] at this; exact this
            refine hstep_app 41 (by rfl) (by rfl) (.tmp 39) (.tmp 40) 22 22 22 (by rfl) (by rfl) va (.slice ma m.length mc) (by rfl) (by rfl) hrB ?_
            refine hK.out _ _ (G3) (fun hHeld => ?_)
            clear hK K
            try simp only [Act.put, List.setIfInBounds_toArray, List.set_cons_zero, List.set_cons_succ]
            refine wpAnyH_ready (rs := [5]) (by kernel_rfl) (by simp) ?_
            refine AllReadyH.cons rfl (fun K hK => ?_) ?_
            · go_simp
              go_wp2_with (go_at_call 7; refine (HR2.out _ _ R3).mono ?_; rintro e y4 ⟨rfl, g4⟩)
              have G4 := grown_up G3 g4
              have U4 := U3.kept g4 (by simp)
              refine hK.out _ _ (G4) (fun hHeld => ?_)
              clear hK K
              try simp only [Act.put, List.setIfInBounds_toArray, List.set_cons_zero, List.set_cons_succ]
              refine take_at (i := 6) (d := 37) (v := ?_) rfl rfl (by kernel_rfl) (by kernel_rfl) (by kernel_rfl) (fun _ _ _ h => h) (Or.inl ⟨by rfl, ?_⟩) (by assumption) ?_
              rotate_left
              · intro W hSW
                try dsimp only at hSW
                go_simp
                try with_reducible rfl
              try simp only [Act.put, List.setIfInBounds_toArray, List.set_cons_zero, List.set_cons_succ]
              refine take_at (i := 7) (d := 44) (v := ?_) rfl rfl (by kernel_rfl) (by kernel_rfl) (by kernel_rfl) (fun _ _ _ h => h) (Or.inl ⟨by rfl, ?_⟩) (by assumption) ?_
              rotate_left
              · intro W hSW
                try dsimp only at hSW
                go_simp
                try with_reducible rfl
              try simp only [Act.put, List.setIfInBounds_toArray, List.set_cons_zero, List.set_cons_succ]
              refine take_at (i := 8) (d := 45) (v := ?_) rfl rfl (by kernel_rfl) (by kernel_rfl) (by kernel_rfl) (fun _ _ _ h => h) (Or.inl ⟨by rfl, ?_⟩) (by assumption) ?_
              rotate_left
              · intro W hSW
                try dsimp only at hSW
                go_simp
                try with_reducible rfl
              try simp only [Act.put, List.setIfInBounds_toArray, List.set_cons_zero, List.set_cons_succ]
              refine wpAnyH_ready (rs := [10]) (by kernel_rfl) (by simp) ?_
              refine AllReadyH.cons rfl (fun K hK => ?_) ?_
              · have v0 := U4.c0
                have v1 := U4.c1
                have v2 := U4.c2
                have vf := U4.fz
                go_simp
                have hP := vb_set U4 d2
                have hGe := grown_new G4 hP.2 (fun j e => by cases e; exact hp5)
                refine hK.out _ _ (hGe) (fun hHeld => ?_)
                clear hK K
                try simp only [Act.put, List.setIfInBounds_toArray, List.set_cons_zero, List.set_cons_succ]
                refine take_at (i := 11) (d := 14) (v := ?_) rfl rfl (by kernel_rfl) (by kernel_rfl) (by kernel_rfl) (fun _ _ _ h => h) (Or.inl ⟨by rfl, ?_⟩) (by assumption) ?_
                rotate_left
                · intro W hSW
                  try dsimp only at hSW
                  go_simp
                  try with_reducible rfl
                try simp only [Act.put, List.setIfInBounds_toArray, List.set_cons_zero, List.set_cons_succ]
                refine wpAnyH_done (by kernel_rfl) ?_ _
                go_wp2_with fail
                go_meet
                exact ⟨p5, rfl, rfl, hP.1, hp5, hGe⟩
              exact AllReadyH.nil
            exact AllReadyH.nil
          exact AllReadyH.nil
        exact AllReadyH.nil
      refine AllReadyH.cons rfl (fun K hK => ?_) ?_
      · go_simp
        have G1 : wc.grownBy (World.drew (World.alloc wc (.cells #[.int .i64 0, .int .i64 0, .string ⟨#[]⟩] 25))) none := grown_up (World.grownBy_alloc wc (.cells #[.int .i64 0, .int .i64 0, .string ⟨#[]⟩] 25) none) (grown_dr _)
        refine hK.out _ _ (G1) (fun hHeld => ?_)
        clear hK K
        try simp only [Act.put, List.setIfInBounds_toArray, List.set_cons_zero, List.set_cons_succ]
        have U1 : Vb (World.drew (World.alloc wc (.cells #[.int .i64 0, .int .i64 0, .string ⟨#[]⟩] 25))) wc.heap.size ⟨0, 0, ⟨#[]⟩⟩ := (Vb.new wc ⟨0, 0, ⟨#[]⟩⟩).kept (grown_dr _) (by simp)
        have hp5 : wc.heap.size ≤ wc.heap.size := Nat.le_refl _
        generalize (World.drew (World.alloc wc (.cells #[.int .i64 0, .int .i64 0, .string ⟨#[]⟩] 25))) = y1 at *
        obtain ⟨p5, hq5⟩ : ∃ p5, wc.heap.size = p5 := ⟨_, rfl⟩
        have hp5 : wc.heap.size ≤ p5 := hq5 ▸ hp5
        rw [hq5] at U1 ⊢
        refine wpAnyH_ready (rs := [1]) (by kernel_rfl) (by simp) ?_
        refine AllReadyH.cons rfl (fun K hK => ?_) ?_
        · obtain ⟨va, y2, hrA, O2, g2⟩ := app_wr 22 Tryd.underlying22 y1 y1.heap.size (.slice none 0 0) (.slice ta t.length tc) [] t OwR.nil (HT.out.keptN (grown_up G4 G1)) (Nat.le_refl _) (by simp; omega)
          have g2 : y1.grownBy y2 none := g2
          have hbA := G1.size
          have hbB := g2.size
          have hpb := U1.lt
          obtain ⟨bA, HbA⟩ : ∃ b, y1.heap.size = b := ⟨_, rfl⟩
          rw [HbA] at O2 hbA hbB hpb
          have G2 := grown_up G1 g2
          have U2 := U1.kept g2 (by simp)
          refine hstep_app 39 (by rfl) (by rfl) (.const (.slice none 0 0)) (.tmp 38) 22 22 22 (by rfl) (by rfl) (.slice none 0 0) (.slice ta t.length tc) (by rfl) (by rfl) hrA ?_
          refine hK.out _ _ (G2) (fun hHeld => ?_)
          clear hK K
          try simp only [Act.put, List.setIfInBounds_toArray, List.set_cons_zero, List.set_cons_succ]
          refine wpAnyH_ready (rs := [3]) (by kernel_rfl) (by simp) ?_
          refine AllReadyH.cons rfl (fun K hK => ?_) ?_
          · obtain ⟨vb, y3, hrB, OB, g3⟩ := app_wr 22 Tryd.underlying22 y2 bA va (.slice ma m.length mc) ([] ++ t) m O2 (HM.out.keptN (grown_up G4 G2)) hbB (by simp; omega)
            have G3 := grown_new G2 g3 (fun j e => by have := (O2.lt j e).1; omega)
            have U3 := U2.kept g3 (fun e => by have h9 := O2.lt _ e.symm; omega)
            have R3 : Rw Wr.cells 7 y3 vb L := by have := OB.rw clW; rw [List.nil_append, HLL.out] at this; exact this
            refine hstep_app 41 (by rfl) (by rfl) (.tmp 39) (.tmp 40) 22 22 22 (by rfl) (by rfl) va (.slice ma m.length mc) (by rfl) (by rfl) hrB ?_
            refine hK.out _ _ (G3) (fun hHeld => ?_)
            clear hK K
            try simp only [Act.put, List.setIfInBounds_toArray, List.set_cons_zero, List.set_cons_succ]
            refine wpAnyH_ready (rs := [5]) (by kernel_rfl) (by simp) ?_
            refine AllReadyH.cons rfl (fun K hK => ?_) ?_
            · go_simp
              go_wp2_with (go_at_call 7; refine (HR2.out _ _ R3).mono ?_; rintro e y4 ⟨rfl, g4⟩)
              have G4 := grown_up G3 g4
              have U4 := U3.kept g4 (by simp)
              refine hK.out _ _ (G4) (fun hHeld => ?_)
              clear hK K
              try simp only [Act.put, List.setIfInBounds_toArray, List.set_cons_zero, List.set_cons_succ]
              refine take_at (i := 6) (d := 37) (v := ?_) rfl rfl (by kernel_rfl) (by kernel_rfl) (by kernel_rfl) (fun _ _ _ h => h) (Or.inl ⟨by rfl, ?_⟩) (by assumption) ?_
              rotate_left
              · intro W hSW
                try dsimp only at hSW
                go_simp
                try with_reducible rfl
              try simp only [Act.put, List.setIfInBounds_toArray, List.set_cons_zero, List.set_cons_succ]
              refine take_at (i := 7) (d := 44) (v := ?_) rfl rfl (by kernel_rfl) (by kernel_rfl) (by kernel_rfl) (fun _ _ _ h => h) (Or.inl ⟨by rfl, ?_⟩) (by assumption) ?_
              rotate_left
              · intro W hSW
                try dsimp only at hSW
                go_simp
                try with_reducible rfl
              try simp only [Act.put, List.setIfInBounds_toArray, List.set_cons_zero, List.set_cons_succ]
              refine take_at (i := 8) (d := 45) (v := ?_) rfl rfl (by kernel_rfl) (by kernel_rfl) (by kernel_rfl) (fun _ _ _ h => h) (Or.inl ⟨by rfl, ?_⟩) (by assumption) ?_
              rotate_left
              · intro W hSW
                try dsimp only at hSW
                go_simp
                try with_reducible rfl
              try simp only [Act.put, List.setIfInBounds_toArray, List.set_cons_zero, List.set_cons_succ]
              refine wpAnyH_ready (rs := [10]) (by kernel_rfl) (by simp) ?_
              refine AllReadyH.cons rfl (fun K hK => ?_) ?_
              · have v0 := U4.c0
                have v1 := U4.c1
                have v2 := U4.c2
                have vf := U4.fz
                go_simp
                have hP := vb_set U4 d2
                have hGe := grown_new G4 hP.2 (fun j e => by cases e; exact hp5)
                refine hK.out _ _ (hGe) (fun hHeld => ?_)
                clear hK K
                try simp only [Act.put, List.setIfInBounds_toArray, List.set_cons_zero, List.set_cons_succ]
                refine take_at (i := 11) (d := 14) (v := ?_) rfl rfl (by kernel_rfl) (by kernel_rfl) (by kernel_rfl) (fun _ _ _ h => h) (Or.inl ⟨by rfl, ?_⟩) (by assumption) ?_
                rotate_left
                · intro W hSW
                  try dsimp only at hSW
                  go_simp
                  try with_reducible rfl
                try simp only [Act.put, List.setIfInBounds_toArray, List.set_cons_zero, List.set_cons_succ]
                refine wpAnyH_done (by kernel_rfl) ?_ _
                go_wp2_with fail
                go_meet
                exact ⟨p5, rfl, rfl, hP.1, hp5, hGe⟩
              exact AllReadyH.nil
            exact AllReadyH.nil
          exact AllReadyH.nil
        exact AllReadyH.nil
      exact AllReadyH.nil
    case rest =>
      obtain ⟨p4, rfl, rfl, V5, hp5, hg5⟩ := hcut
      have G5 := grown_up G4 hg5
      have K5 := K4.kept hg5 (by simp)
      have Q5 := Q4.kept hg5 (by simp)
      have P5 := P4.kept hg5 (by simp)
      have V6 := V4.kept hg5 (by simp)
      clear k0 k1 k2 dr K4 Q4 P4 V4 G4 hg5 hp5 HHas HL2 HR2
      go_upto_region 7 with fail
      have k0 := K5.c0; have k1 := K5.c1; have k2 := K5.c2
      have q0 := Q5.c0; have q1 := Q5.c1; have q2 := Q5.c2
      have r0 := P5.c0; have r1 := P5.c1; have r2 := P5.c2
      have s0 := V6.c0; have s1 := V6.c1; have s2 := V6.c2
      have u0 := V5.c0; have u1 := V5.c1; have u2 := V5.c2
      have dr := grown_dr wc
      refine wp_region_held_drew (S := fun W0 => wc.grownBy W0 none) (by kernel_rfl) (dr) (fun hHeld => ?_)
      refine take_at (i := 0) (d := 46) (v := ?_) rfl rfl (by kernel_rfl) (by kernel_rfl) (by kernel_rfl) (fun _ _ _ h => h) (Or.inl ⟨by rfl, ?_⟩) (by assumption) ?_
      rotate_left
      · intro W hSW
        try dsimp only at hSW
        have gk0 := cell_g k0 hSW
        have gk1 := cell_g k1 hSW
        have gk2 := cell_g k2 hSW
        have gq0 := cell_g q0 hSW
        have gq1 := cell_g q1 hSW
        have gq2 := cell_g q2 hSW
        have gr0 := cell_g r0 hSW
        have gr1 := cell_g r1 hSW
        have gr2 := cell_g r2 hSW
        have gs0 := cell_g s0 hSW
        have gs1 := cell_g s1 hSW
        have gs2 := cell_g s2 hSW
        have gu0 := cell_g u0 hSW
        have gu1 := cell_g u1 hSW
        have gu2 := cell_g u2 hSW
        go_simp
        try with_reducible rfl
      try simp only [Act.put, List.setIfInBounds_toArray, List.set_cons_zero, List.set_cons_succ]
      refine take_at (i := 1) (d := 47) (v := ?_) rfl rfl (by kernel_rfl) (by kernel_rfl) (by kernel_rfl) (fun _ _ _ h => h) (Or.inl ⟨by rfl, ?_⟩) (by assumption) ?_
      rotate_left
      · intro W hSW
        try dsimp only at hSW
        have gk0 := cell_g k0 hSW
        have gk1 := cell_g k1 hSW
        have gk2 := cell_g k2 hSW
        have gq0 := cell_g q0 hSW
        have gq1 := cell_g q1 hSW
        have gq2 := cell_g q2 hSW
        have gr0 := cell_g r0 hSW
        have gr1 := cell_g r1 hSW
        have gr2 := cell_g r2 hSW
        have gs0 := cell_g s0 hSW
        have gs1 := cell_g s1 hSW
        have gs2 := cell_g s2 hSW
        have gu0 := cell_g u0 hSW
        have gu1 := cell_g u1 hSW
        have gu2 := cell_g u2 hSW
        go_simp
        try with_reducible rfl
      try simp only [Act.put, List.setIfInBounds_toArray, List.set_cons_zero, List.set_cons_succ]
      refine take_at (i := 2) (d := 48) (v := ?_) rfl rfl (by kernel_rfl) (by kernel_rfl) (by kernel_rfl) (fun _ _ _ h => h) (Or.inl ⟨by rfl, ?_⟩) (by assumption) ?_
      rotate_left
      · intro W hSW
        try dsimp only at hSW
        have gk0 := cell_g k0 hSW
        have gk1 := cell_g k1 hSW
        have gk2 := cell_g k2 hSW
        have gq0 := cell_g q0 hSW
        have gq1 := cell_g q1 hSW
        have gq2 := cell_g q2 hSW
        have gr0 := cell_g r0 hSW
        have gr1 := cell_g r1 hSW
        have gr2 := cell_g r2 hSW
        have gs0 := cell_g s0 hSW
        have gs1 := cell_g s1 hSW
        have gs2 := cell_g s2 hSW
        have gu0 := cell_g u0 hSW
        have gu1 := cell_g u1 hSW
        have gu2 := cell_g u2 hSW
        go_simp
        try with_reducible rfl
      try simp only [Act.put, List.setIfInBounds_toArray, List.set_cons_zero, List.set_cons_succ]
      refine take_at (i := 3) (d := 49) (v := ?_) rfl rfl (by kernel_rfl) (by kernel_rfl) (by kernel_rfl) (fun _ _ _ h => h) (Or.inl ⟨by rfl, ?_⟩) (by assumption) ?_
      rotate_left
      · intro W hSW
        try dsimp only at hSW
        have gk0 := cell_g k0 hSW
        have gk1 := cell_g k1 hSW
        have gk2 := cell_g k2 hSW
        have gq0 := cell_g q0 hSW
        have gq1 := cell_g q1 hSW
        have gq2 := cell_g q2 hSW
        have gr0 := cell_g r0 hSW
        have gr1 := cell_g r1 hSW
        have gr2 := cell_g r2 hSW
        have gs0 := cell_g s0 hSW
        have gs1 := cell_g s1 hSW
        have gs2 := cell_g s2 hSW
        have gu0 := cell_g u0 hSW
        have gu1 := cell_g u1 hSW
        have gu2 := cell_g u2 hSW
        go_simp
        try with_reducible rfl
      try simp only [Act.put, List.setIfInBounds_toArray, List.set_cons_zero, List.set_cons_succ]
      refine take_at (i := 4) (d := 50) (v := ?_) rfl rfl (by kernel_rfl) (by kernel_rfl) (by kernel_rfl) (fun _ _ _ h => h) (Or.inl ⟨by rfl, ?_⟩) (by assumption) ?_
      rotate_left
      · intro W hSW
        try dsimp only at hSW
        have gk0 := cell_g k0 hSW
        have gk1 := cell_g k1 hSW
        have gk2 := cell_g k2 hSW
        have gq0 := cell_g q0 hSW
        have gq1 := cell_g q1 hSW
        have gq2 := cell_g q2 hSW
        have gr0 := cell_g r0 hSW
        have gr1 := cell_g r1 hSW
        have gr2 := cell_g r2 hSW
        have gs0 := cell_g s0 hSW
        have gs1 := cell_g s1 hSW
        have gs2 := cell_g s2 hSW
        have gu0 := cell_g u0 hSW
        have gu1 := cell_g u1 hSW
        have gu2 := cell_g u2 hSW
        go_simp
        try with_reducible rfl
      try simp only [Act.put, List.setIfInBounds_toArray, List.set_cons_zero, List.set_cons_succ]
      refine take_at (i := 5) (d := 51) (v := ?_) rfl rfl (by kernel_rfl) (by kernel_rfl) (by kernel_rfl) (fun _ _ _ h => h) (Or.inl ⟨by rfl, ?_⟩) (by assumption) ?_
      rotate_left
      · intro W hSW
        try dsimp only at hSW
        have gk0 := cell_g k0 hSW
        have gk1 := cell_g k1 hSW
        have gk2 := cell_g k2 hSW
        have gq0 := cell_g q0 hSW
        have gq1 := cell_g q1 hSW
        have gq2 := cell_g q2 hSW
        have gr0 := cell_g r0 hSW
        have gr1 := cell_g r1 hSW
        have gr2 := cell_g r2 hSW
        have gs0 := cell_g s0 hSW
        have gs1 := cell_g s1 hSW
        have gs2 := cell_g s2 hSW
        have gu0 := cell_g u0 hSW
        have gu1 := cell_g u1 hSW
        have gu2 := cell_g u2 hSW
        go_simp
        try with_reducible rfl
      try simp only [Act.put, List.setIfInBounds_toArray, List.set_cons_zero, List.set_cons_succ]
      refine take_at (i := 6) (d := 52) (v := ?_) rfl rfl (by kernel_rfl) (by kernel_rfl) (by kernel_rfl) (fun _ _ _ h => h) (Or.inl ⟨by rfl, ?_⟩) (by assumption) ?_
      rotate_left
      · intro W hSW
        try dsimp only at hSW
        have gk0 := cell_g k0 hSW
        have gk1 := cell_g k1 hSW
        have gk2 := cell_g k2 hSW
        have gq0 := cell_g q0 hSW
        have gq1 := cell_g q1 hSW
        have gq2 := cell_g q2 hSW
        have gr0 := cell_g r0 hSW
        have gr1 := cell_g r1 hSW
        have gr2 := cell_g r2 hSW
        have gs0 := cell_g s0 hSW
        have gs1 := cell_g s1 hSW
        have gs2 := cell_g s2 hSW
        have gu0 := cell_g u0 hSW
        have gu1 := cell_g u1 hSW
        have gu2 := cell_g u2 hSW
        go_simp
        try with_reducible rfl
      try simp only [Act.put, List.setIfInBounds_toArray, List.set_cons_zero, List.set_cons_succ]
      refine take_at (i := 7) (d := 53) (v := ?_) rfl rfl (by kernel_rfl) (by kernel_rfl) (by kernel_rfl) (fun _ _ _ h => h) (Or.inl ⟨by rfl, ?_⟩) (by assumption) ?_
      rotate_left
      · intro W hSW
        try dsimp only at hSW
        have gk0 := cell_g k0 hSW
        have gk1 := cell_g k1 hSW
        have gk2 := cell_g k2 hSW
        have gq0 := cell_g q0 hSW
        have gq1 := cell_g q1 hSW
        have gq2 := cell_g q2 hSW
        have gr0 := cell_g r0 hSW
        have gr1 := cell_g r1 hSW
        have gr2 := cell_g r2 hSW
        have gs0 := cell_g s0 hSW
        have gs1 := cell_g s1 hSW
        have gs2 := cell_g s2 hSW
        have gu0 := cell_g u0 hSW
        have gu1 := cell_g u1 hSW
        have gu2 := cell_g u2 hSW
        go_simp
        try with_reducible rfl
      try simp only [Act.put, List.setIfInBounds_toArray, List.set_cons_zero, List.set_cons_succ]
      refine take_at (i := 8) (d := 54) (v := ?_) rfl rfl (by kernel_rfl) (by kernel_rfl) (by kernel_rfl) (fun _ _ _ h => h) (Or.inl ⟨by rfl, ?_⟩) (by assumption) ?_
      rotate_left
      · intro W hSW
        try dsimp only at hSW
        have gk0 := cell_g k0 hSW
        have gk1 := cell_g k1 hSW
        have gk2 := cell_g k2 hSW
        have gq0 := cell_g q0 hSW
        have gq1 := cell_g q1 hSW
        have gq2 := cell_g q2 hSW
        have gr0 := cell_g r0 hSW
        have gr1 := cell_g r1 hSW
        have gr2 := cell_g r2 hSW
        have gs0 := cell_g s0 hSW
        have gs1 := cell_g s1 hSW
        have gs2 := cell_g s2 hSW
        have gu0 := cell_g u0 hSW
        have gu1 := cell_g u1 hSW
        have gu2 := cell_g u2 hSW
        go_simp
        try with_reducible rfl
      try simp only [Act.put, List.setIfInBounds_toArray, List.set_cons_zero, List.set_cons_succ]
      refine take_at (i := 9) (d := 55) (v := ?_) rfl rfl (by kernel_rfl) (by kernel_rfl) (by kernel_rfl) (fun _ _ _ h => h) (Or.inl ⟨by rfl, ?_⟩) (by assumption) ?_
      rotate_left
      · intro W hSW
        try dsimp only at hSW
        have gk0 := cell_g k0 hSW
        have gk1 := cell_g k1 hSW
        have gk2 := cell_g k2 hSW
        have gq0 := cell_g q0 hSW
        have gq1 := cell_g q1 hSW
        have gq2 := cell_g q2 hSW
        have gr0 := cell_g r0 hSW
        have gr1 := cell_g r1 hSW
        have gr2 := cell_g r2 hSW
        have gs0 := cell_g s0 hSW
        have gs1 := cell_g s1 hSW
        have gs2 := cell_g s2 hSW
        have gu0 := cell_g u0 hSW
        have gu1 := cell_g u1 hSW
        have gu2 := cell_g u2 hSW
        go_simp
        try with_reducible rfl
      try simp only [Act.put, List.setIfInBounds_toArray, List.set_cons_zero, List.set_cons_succ]
      refine take_at (i := 10) (d := 56) (v := ?_) rfl rfl (by kernel_rfl) (by kernel_rfl) (by kernel_rfl) (fun _ _ _ h => h) (Or.inl ⟨by rfl, ?_⟩) (by assumption) ?_
      rotate_left
      · intro W hSW
        try dsimp only at hSW
        have gk0 := cell_g k0 hSW
        have gk1 := cell_g k1 hSW
        have gk2 := cell_g k2 hSW
        have gq0 := cell_g q0 hSW
        have gq1 := cell_g q1 hSW
        have gq2 := cell_g q2 hSW
        have gr0 := cell_g r0 hSW
        have gr1 := cell_g r1 hSW
        have gr2 := cell_g r2 hSW
        have gs0 := cell_g s0 hSW
        have gs1 := cell_g s1 hSW
        have gs2 := cell_g s2 hSW
        have gu0 := cell_g u0 hSW
        have gu1 := cell_g u1 hSW
        have gu2 := cell_g u2 hSW
        go_simp
        try with_reducible rfl
      try simp only [Act.put, List.setIfInBounds_toArray, List.set_cons_zero, List.set_cons_succ]
      refine take_at (i := 11) (d := 57) (v := ?_) rfl rfl (by kernel_rfl) (by kernel_rfl) (by kernel_rfl) (fun _ _ _ h => h) (Or.inl ⟨by rfl, ?_⟩) (by assumption) ?_
      rotate_left
      · intro W hSW
        try dsimp only at hSW
        have gk0 := cell_g k0 hSW
        have gk1 := cell_g k1 hSW
        have gk2 := cell_g k2 hSW
        have gq0 := cell_g q0 hSW
        have gq1 := cell_g q1 hSW
        have gq2 := cell_g q2 hSW
        have gr0 := cell_g r0 hSW
        have gr1 := cell_g r1 hSW
        have gr2 := cell_g r2 hSW
        have gs0 := cell_g s0 hSW
        have gs1 := cell_g s1 hSW
        have gs2 := cell_g s2 hSW
        have gu0 := cell_g u0 hSW
        have gu1 := cell_g u1 hSW
        have gu2 := cell_g u2 hSW
        go_simp
        try with_reducible rfl
      try simp only [Act.put, List.setIfInBounds_toArray, List.set_cons_zero, List.set_cons_succ]
      refine take_at (i := 12) (d := 58) (v := ?_) rfl rfl (by kernel_rfl) (by kernel_rfl) (by kernel_rfl) (fun _ _ _ h => h) (Or.inl ⟨by rfl, ?_⟩) (by assumption) ?_
      rotate_left
      · intro W hSW
        try dsimp only at hSW
        have gk0 := cell_g k0 hSW
        have gk1 := cell_g k1 hSW
        have gk2 := cell_g k2 hSW
        have gq0 := cell_g q0 hSW
        have gq1 := cell_g q1 hSW
        have gq2 := cell_g q2 hSW
        have gr0 := cell_g r0 hSW
        have gr1 := cell_g r1 hSW
        have gr2 := cell_g r2 hSW
        have gs0 := cell_g s0 hSW
        have gs1 := cell_g s1 hSW
        have gs2 := cell_g s2 hSW
        have gu0 := cell_g u0 hSW
        have gu1 := cell_g u1 hSW
        have gu2 := cell_g u2 hSW
        go_simp
        try with_reducible rfl
      try simp only [Act.put, List.setIfInBounds_toArray, List.set_cons_zero, List.set_cons_succ]
      refine take_at (i := 13) (d := 59) (v := ?_) rfl rfl (by kernel_rfl) (by kernel_rfl) (by kernel_rfl) (fun _ _ _ h => h) (Or.inl ⟨by rfl, ?_⟩) (by assumption) ?_
      rotate_left
      · intro W hSW
        try dsimp only at hSW
        have gk0 := cell_g k0 hSW
        have gk1 := cell_g k1 hSW
        have gk2 := cell_g k2 hSW
        have gq0 := cell_g q0 hSW
        have gq1 := cell_g q1 hSW
        have gq2 := cell_g q2 hSW
        have gr0 := cell_g r0 hSW
        have gr1 := cell_g r1 hSW
        have gr2 := cell_g r2 hSW
        have gs0 := cell_g s0 hSW
        have gs1 := cell_g s1 hSW
        have gs2 := cell_g s2 hSW
        have gu0 := cell_g u0 hSW
        have gu1 := cell_g u1 hSW
        have gu2 := cell_g u2 hSW
        go_simp
        try with_reducible rfl
      try simp only [Act.put, List.setIfInBounds_toArray, List.set_cons_zero, List.set_cons_succ]
      refine take_at (i := 14) (d := 60) (v := ?_) rfl rfl (by kernel_rfl) (by kernel_rfl) (by kernel_rfl) (fun _ _ _ h => h) (Or.inl ⟨by rfl, ?_⟩) (by assumption) ?_
      rotate_left
      · intro W hSW
        try dsimp only at hSW
        have gk0 := cell_g k0 hSW
        have gk1 := cell_g k1 hSW
        have gk2 := cell_g k2 hSW
        have gq0 := cell_g q0 hSW
        have gq1 := cell_g q1 hSW
        have gq2 := cell_g q2 hSW
        have gr0 := cell_g r0 hSW
        have gr1 := cell_g r1 hSW
        have gr2 := cell_g r2 hSW
        have gs0 := cell_g s0 hSW
        have gs1 := cell_g s1 hSW
        have gs2 := cell_g s2 hSW
        have gu0 := cell_g u0 hSW
        have gu1 := cell_g u1 hSW
        have gu2 := cell_g u2 hSW
        go_simp
        try with_reducible rfl
      try simp only [Act.put, List.setIfInBounds_toArray, List.set_cons_zero, List.set_cons_succ]
      refine take_at (i := 15) (d := 61) (v := ?_) rfl rfl (by kernel_rfl) (by kernel_rfl) (by kernel_rfl) (fun _ _ _ h => h) (Or.inl ⟨by rfl, ?_⟩) (by assumption) ?_
      rotate_left
      · intro W hSW
        try dsimp only at hSW
        have gk0 := cell_g k0 hSW
        have gk1 := cell_g k1 hSW
        have gk2 := cell_g k2 hSW
        have gq0 := cell_g q0 hSW
        have gq1 := cell_g q1 hSW
        have gq2 := cell_g q2 hSW
        have gr0 := cell_g r0 hSW
        have gr1 := cell_g r1 hSW
        have gr2 := cell_g r2 hSW
        have gs0 := cell_g s0 hSW
        have gs1 := cell_g s1 hSW
        have gs2 := cell_g s2 hSW
        have gu0 := cell_g u0 hSW
        have gu1 := cell_g u1 hSW
        have gu2 := cell_g u2 hSW
        go_simp
        try with_reducible rfl
      try simp only [Act.put, List.setIfInBounds_toArray, List.set_cons_zero, List.set_cons_succ]
      refine take_at (i := 16) (d := 62) (v := ?_) rfl rfl (by kernel_rfl) (by kernel_rfl) (by kernel_rfl) (fun _ _ _ h => h) (Or.inl ⟨by rfl, ?_⟩) (by assumption) ?_
      rotate_left
      · intro W hSW
        try dsimp only at hSW
        have gk0 := cell_g k0 hSW
        have gk1 := cell_g k1 hSW
        have gk2 := cell_g k2 hSW
        have gq0 := cell_g q0 hSW
        have gq1 := cell_g q1 hSW
        have gq2 := cell_g q2 hSW
        have gr0 := cell_g r0 hSW
        have gr1 := cell_g r1 hSW
        have gr2 := cell_g r2 hSW
        have gs0 := cell_g s0 hSW
        have gs1 := cell_g s1 hSW
        have gs2 := cell_g s2 hSW
        have gu0 := cell_g u0 hSW
        have gu1 := cell_g u1 hSW
        have gu2 := cell_g u2 hSW
        go_simp
        try with_reducible rfl
      try simp only [Act.put, List.setIfInBounds_toArray, List.set_cons_zero, List.set_cons_succ]
      refine take_at (i := 17) (d := 63) (v := ?_) rfl rfl (by kernel_rfl) (by kernel_rfl) (by kernel_rfl) (fun _ _ _ h => h) (Or.inl ⟨by rfl, ?_⟩) (by assumption) ?_
      rotate_left
      · intro W hSW
        try dsimp only at hSW
        have gk0 := cell_g k0 hSW
        have gk1 := cell_g k1 hSW
        have gk2 := cell_g k2 hSW
        have gq0 := cell_g q0 hSW
        have gq1 := cell_g q1 hSW
        have gq2 := cell_g q2 hSW
        have gr0 := cell_g r0 hSW
        have gr1 := cell_g r1 hSW
        have gr2 := cell_g r2 hSW
        have gs0 := cell_g s0 hSW
        have gs1 := cell_g s1 hSW
        have gs2 := cell_g s2 hSW
        have gu0 := cell_g u0 hSW
        have gu1 := cell_g u1 hSW
        have gu2 := cell_g u2 hSW
        go_simp
        try with_reducible rfl
      try simp only [Act.put, List.setIfInBounds_toArray, List.set_cons_zero, List.set_cons_succ]
      refine take_at (i := 18) (d := 64) (v := ?_) rfl rfl (by kernel_rfl) (by kernel_rfl) (by kernel_rfl) (fun _ _ _ h => h) (Or.inl ⟨by rfl, ?_⟩) (by assumption) ?_
      rotate_left
      · intro W hSW
        try dsimp only at hSW
        have gk0 := cell_g k0 hSW
        have gk1 := cell_g k1 hSW
        have gk2 := cell_g k2 hSW
        have gq0 := cell_g q0 hSW
        have gq1 := cell_g q1 hSW
        have gq2 := cell_g q2 hSW
        have gr0 := cell_g r0 hSW
        have gr1 := cell_g r1 hSW
        have gr2 := cell_g r2 hSW
        have gs0 := cell_g s0 hSW
        have gs1 := cell_g s1 hSW
        have gs2 := cell_g s2 hSW
        have gu0 := cell_g u0 hSW
        have gu1 := cell_g u1 hSW
        have gu2 := cell_g u2 hSW
        go_simp
        try with_reducible rfl
      try simp only [Act.put, List.setIfInBounds_toArray, List.set_cons_zero, List.set_cons_succ]
      refine take_at (i := 19) (d := 65) (v := ?_) rfl rfl (by kernel_rfl) (by kernel_rfl) (by kernel_rfl) (fun _ _ _ h => h) (Or.inl ⟨by rfl, ?_⟩) (by assumption) ?_
      rotate_left
      · intro W hSW
        try dsimp only at hSW
        have gk0 := cell_g k0 hSW
        have gk1 := cell_g k1 hSW
        have gk2 := cell_g k2 hSW
        have gq0 := cell_g q0 hSW
        have gq1 := cell_g q1 hSW
        have gq2 := cell_g q2 hSW
        have gr0 := cell_g r0 hSW
        have gr1 := cell_g r1 hSW
        have gr2 := cell_g r2 hSW
        have gs0 := cell_g s0 hSW
        have gs1 := cell_g s1 hSW
        have gs2 := cell_g s2 hSW
        have gu0 := cell_g u0 hSW
        have gu1 := cell_g u1 hSW
        have gu2 := cell_g u2 hSW
        go_simp
        try with_reducible rfl
      try simp only [Act.put, List.setIfInBounds_toArray, List.set_cons_zero, List.set_cons_succ]
      refine take_at (i := 21) (d := 67) (v := ?_) rfl rfl (by kernel_rfl) (by kernel_rfl) (by kernel_rfl) (fun _ _ _ h => h) (Or.inl ⟨by rfl, ?_⟩) (by assumption) ?_
      rotate_left
      · intro W hSW
        try dsimp only at hSW
        have gk0 := cell_g k0 hSW
        have gk1 := cell_g k1 hSW
        have gk2 := cell_g k2 hSW
        have gq0 := cell_g q0 hSW
        have gq1 := cell_g q1 hSW
        have gq2 := cell_g q2 hSW
        have gr0 := cell_g r0 hSW
        have gr1 := cell_g r1 hSW
        have gr2 := cell_g r2 hSW
        have gs0 := cell_g s0 hSW
        have gs1 := cell_g s1 hSW
        have gs2 := cell_g s2 hSW
        have gu0 := cell_g u0 hSW
        have gu1 := cell_g u1 hSW
        have gu2 := cell_g u2 hSW
        go_simp
        try with_reducible rfl
      try simp only [Act.put, List.setIfInBounds_toArray, List.set_cons_zero, List.set_cons_succ]
      refine wpAnyH_ready (rs := [20]) (by kernel_rfl) (by simp) ?_
      refine AllReadyH.cons rfl (fun K hK => ?_) ?_
      · go_simp
        go_wp2_with (go_at_call 10; refine (HF1.out _).mono ?_; rintro e y1 ⟨⟨gf, rfl, RF1⟩, g1⟩)
        have G1 := grown_up dr g1
        refine hK.out _ _ (G1) (fun hHeld => ?_)
        clear hK K
        try simp only [Act.put, List.setIfInBounds_toArray, List.set_cons_zero, List.set_cons_succ]
        refine wpAnyH_ready (rs := [22]) (by kernel_rfl) (by simp) ?_
        refine AllReadyH.cons rfl (fun K hK => ?_) ?_
        · go_simp
          go_wp2_with (go_at_call 11; refine (HF2.out _).mono ?_; rintro e y2 ⟨⟨af, cf, rfl, RF2⟩, g2⟩)
          have G2 := grown_up G1 g2
          refine hK.out _ _ (G2) (fun hHeld => ?_)
          clear hK K
          try simp only [Act.put, List.setIfInBounds_toArray, List.set_cons_zero, List.set_cons_succ]
          refine wpAnyH_ready (rs := [23]) (by kernel_rfl) (by simp) ?_
          refine AllReadyH.cons rfl (fun K hK => ?_) ?_
          · go_simp
            go_wp2_with (go_at_call 9; refine (sameF_self _ _ 0 (rgF k) _ (RF1.keptN g2) RF2).mono ?_; rintro e y3 ⟨rfl, g3⟩)
            have G9 := grown_up G2 g3
            refine hK.out _ _ (G9) (fun hHeld => ?_)
            clear hK K
            try simp only [Act.put, List.setIfInBounds_toArray, List.set_cons_zero, List.set_cons_succ]
            refine take_at (i := 24) (d := 70) (v := ?_) rfl rfl (by kernel_rfl) (by kernel_rfl) (by kernel_rfl) (fun _ _ _ h => h) (Or.inl ⟨by rfl, ?_⟩) (by assumption) ?_
            rotate_left
            · intro W hSW
              try dsimp only at hSW
              go_simp
              try with_reducible rfl
            try simp only [Act.put, List.setIfInBounds_toArray, List.set_cons_zero, List.set_cons_succ]
            refine take_at (i := 25) (d := 6) (v := ?_) rfl rfl (by kernel_rfl) (by kernel_rfl) (by kernel_rfl) (fun _ _ _ h => h) (Or.inl ⟨by rfl, ?_⟩) (by assumption) ?_
            rotate_left
            · intro W hSW
              try dsimp only at hSW
              go_simp
              try with_reducible rfl
            try simp only [Act.put, List.setIfInBounds_toArray, List.set_cons_zero, List.set_cons_succ]
            refine wpAnyH_done (by kernel_rfl) ?_ _
            go_wp2
            go_ret
            exact ⟨rfl, grown_up G5 G9⟩
          exact AllReadyH.nil
        exact AllReadyH.nil
      exact AllReadyH.nil
end Go.Proofs.YthopmlgfklhagabDoor
