/- Contract, over the turned program: machine's deed that loads what a key has. Conditions: those that the theorem states. -/
import Derived.Test.YtpoahegccjgnjaaGreatDoorHDu
import Derived.Test.YtpoahegccjgnjaaGreatDoorHDv
import Derived.Test.YtpoahegccjgnjaaGreatDoorHJo
import Derived.Deep.CutRange
namespace Go.Proofs.YtpoahegccjgnjaaGreatDoor
open Go.RowKit
set_option linter.unusedVariables false

set_option maxRecDepth 100000 in
set_option maxHeartbeats 1000000 in
theorem m_load (B : Bd) (g : Nat) (tv rv pv ov kv : Value) (S : Ms) (x : V) (op c : Int) (a b : Nat) (la : a < 6) (lb : b < 6) (w : World) (hM : Mb B w g tv S rv pv ov kv) (h6 : S.rg.length = 6) (T : V → Option V) (w0 : World) (hA : AskP B tv T w0) (hK : Kp (Bk B) w0 w) (hbw : (S.at (b : Int)).wf) (hvw : ((S.look T (S.at (b : Int))).getD (nV 0)).wf) :
    Calls Tryz.prog 33 #[.pointer (some ⟨g, 0, none⟩), (⟨op, (a : Int), (b : Int), c, x⟩ : In).val] w fun e w' => DP B w g tv (if okC ((S.look T (S.at (b : Int))).getD (nV 0)) = true then .go (S.set (a : Int) ((S.look T (S.at (b : Int))).getD (nV 0))) else .bad) e w' := by
  obtain ⟨r, cap, rfl, hBr, hr, hrg⟩ := at_cells hM h6
  have hgb := World.grownBy_alloc w (.cells #[.int .i64 op, .int .i64 (a : Int), .int .i64 (b : Int), .int .i64 c, .int .i64 x.k, .int .i64 x.n, .string x.s] 44) none
  have hb : Ib (w.alloc (.cells #[.int .i64 op, .int .i64 (a : Int), .int .i64 (b : Int), .int .i64 c, .int .i64 x.k, .int .i64 x.n, .string x.s] 44)) w.heap.size ⟨op, (a : Int), (b : Int), c, x⟩ := Ib.new w ⟨op, (a : Int), (b : Int), c, x⟩
  have hM1 := hM.keptN hgb
  have la' : (a : Int) < 6 := by omega
  have lb' : (b : Int) < 6 := by omega
  obtain ⟨R, HR⟩ : ∃ R, Hid ((if okC ((S.look T (S.at (b : Int))).getD (nV 0)) = true then Rs.go (S.set (a : Int) ((S.look T (S.at (b : Int))).getD (nV 0))) else Rs.bad) = R) := ⟨_, rfl⟩
  rw [HR.out]
  obtain ⟨o, HO⟩ : ∃ o, Hid (S.look T (S.at (b : Int)) = o) := ⟨_, rfl⟩
  rw [HO.out] at HR hvw
  obtain ⟨y, HY⟩ : ∃ y, Hid (obV o = y) := ⟨_, rfl⟩
  obtain ⟨z, HZ⟩ : ∃ z, Hid (o.isSome = z) := ⟨_, rfl⟩
  unfold In.val
  dsimp only
  go_enter Tryz.func33, Tryz.ntmps33
  go_upto_region 1 with fail
  have HG1 := hide (kp_n (B := B) hgb)
  generalize w.alloc (.cells #[.int .i64 op, .int .i64 (a : Int), .int .i64 (b : Int), .int .i64 c, .int .i64 x.k, .int .i64 x.n, .string x.s] 44) = W at *
  have hqg : g < w.heap.size := hM.lt
  generalize hq : w.heap.size = q at *
  have HL : Hid (∀ W0, W.grownBy W0 none → Calls Tryz.prog 64 #[.pointer (some ⟨g, 0, none⟩), .agg #[.int .i64 (S.at (b : Int)).k, .int .i64 (S.at (b : Int)).n, .string (S.at (b : Int)).s]] W0 fun e w' => e = .returned (.tuple #[.agg #[.int .i64 y.k, .int .i64 y.n, .string y.s], .bool z]) ∧ W0.grownBy w' none) := by
    intro W0 hg0
    have h := m_look B g tv _ pv ov kv S T (S.at (b : Int)) w0 W0 (hM1.keptN hg0) hA ((hK.then HG1.out).then (kp_n hg0)) hbw
    rw [HO.out, HY.out, HZ.out] at h
    exact h
  obtain ⟨b0, b1, b2, b3, b4, b5, b6⟩ := hb.cs
  dsimp only at b0 b1 b2 b3 b4 b5 b6
  have t2 := hM1.tb.c2
  obtain ⟨ar0, ar1, ar2, rf⟩ := rg_cells hM1 h6 a la
  obtain ⟨br0, br1, br2, rf⟩ := rg_cells hM1 h6 b lb
  have dr := grown_dr W
  clear hA hK hbw
  go_cut [5, 6] from 7 to 19 (fun t5 t6 W4 => ∃ p5, t5 = .pointer (some ⟨p5, 0, none⟩) ∧ t6 = .bool z ∧ Vb W4 p5 y ∧ W.heap.size ≤ p5 ∧ W.grownBy W4 none)
  case first =>
    refine wp_region_held_drew (S := fun W0 => W.grownBy W0 none) (by kernel_rfl) (dr) (fun hHeld => ?_)
    refine take_at (i := 0) (d := 8) (v := ?_) rfl rfl (by kernel_rfl) (by kernel_rfl) (by kernel_rfl) (fun _ _ _ h => h) (Or.inl ⟨by rfl, ?_⟩) (by assumption) ?_
    rotate_left
    · intro W hSW
      try dsimp only at hSW
      have g0 := cell_g t2 hSW
      have g1 := cell_g b2 hSW
      have g2 := cell_g br0 hSW
      have g3 := cell_g br1 hSW
      have g4 := cell_g br2 hSW
      go_simp
      try with_reducible rfl
    try simp only [Act.put, List.setIfInBounds_toArray, List.set_cons_zero, List.set_cons_succ]
    refine take_at (i := 1) (d := 9) (v := ?_) rfl rfl (by kernel_rfl) (by kernel_rfl) (by kernel_rfl) (fun _ _ _ h => h) (Or.inl ⟨by rfl, ?_⟩) (by assumption) ?_
    rotate_left
    · intro W hSW
      try dsimp only at hSW
      have g0 := cell_g t2 hSW
      have g1 := cell_g b2 hSW
      have g2 := cell_g br0 hSW
      have g3 := cell_g br1 hSW
      have g4 := cell_g br2 hSW
      go_simp
      try with_reducible rfl
    try simp only [Act.put, List.setIfInBounds_toArray, List.set_cons_zero, List.set_cons_succ]
    refine take_at (i := 2) (d := 10) (v := ?_) rfl rfl (by kernel_rfl) (by kernel_rfl) (by kernel_rfl) (fun _ _ _ h => h) (Or.inl ⟨by rfl, ?_⟩) (by assumption) ?_
    rotate_left
    · intro W hSW
      try dsimp only at hSW
      have g0 := cell_g t2 hSW
      have g1 := cell_g b2 hSW
      have g2 := cell_g br0 hSW
      have g3 := cell_g br1 hSW
      have g4 := cell_g br2 hSW
      go_simp
      try with_reducible rfl
    try simp only [Act.put, List.setIfInBounds_toArray, List.set_cons_zero, List.set_cons_succ]
    refine take_at (i := 3) (d := 11) (v := ?_) rfl rfl (by kernel_rfl) (by kernel_rfl) (by kernel_rfl) (fun _ _ _ h => h) (Or.inl ⟨by rfl, ?_⟩) (by assumption) ?_
    rotate_left
    · intro W hSW
      try dsimp only at hSW
      have g0 := cell_g t2 hSW
      have g1 := cell_g b2 hSW
      have g2 := cell_g br0 hSW
      have g3 := cell_g br1 hSW
      have g4 := cell_g br2 hSW
      go_simp
      try with_reducible rfl
    try simp only [Act.put, List.setIfInBounds_toArray, List.set_cons_zero, List.set_cons_succ]
    refine take_at (i := 4) (d := 12) (v := ?_) rfl rfl (by kernel_rfl) (by kernel_rfl) (by kernel_rfl) (fun _ _ _ h => h) (Or.inl ⟨by rfl, ?_⟩) (by assumption) ?_
    rotate_left
    · intro W hSW
      try dsimp only at hSW
      have g0 := cell_g t2 hSW
      have g1 := cell_g b2 hSW
      have g2 := cell_g br0 hSW
      have g3 := cell_g br1 hSW
      have g4 := cell_g br2 hSW
      go_simp
      try with_reducible rfl
    try simp only [Act.put, List.setIfInBounds_toArray, List.set_cons_zero, List.set_cons_succ]
    refine take_at (i := 5) (d := 13) (v := ?_) rfl rfl (by kernel_rfl) (by kernel_rfl) (by kernel_rfl) (fun _ _ _ h => h) (Or.inl ⟨by rfl, ?_⟩) (by assumption) ?_
    rotate_left
    · intro W hSW
      try dsimp only at hSW
      have g0 := cell_g t2 hSW
      have g1 := cell_g b2 hSW
      have g2 := cell_g br0 hSW
      have g3 := cell_g br1 hSW
      have g4 := cell_g br2 hSW
      go_simp
      try with_reducible rfl
    try simp only [Act.put, List.setIfInBounds_toArray, List.set_cons_zero, List.set_cons_succ]
    refine take_at (i := 6) (d := 14) (v := ?_) rfl rfl (by kernel_rfl) (by kernel_rfl) (by kernel_rfl) (fun _ _ _ h => h) (Or.inl ⟨by rfl, ?_⟩) (by assumption) ?_
    rotate_left
    · intro W hSW
      try dsimp only at hSW
      have g0 := cell_g t2 hSW
      have g1 := cell_g b2 hSW
      have g2 := cell_g br0 hSW
      have g3 := cell_g br1 hSW
      have g4 := cell_g br2 hSW
      go_simp
      try with_reducible rfl
    try simp only [Act.put, List.setIfInBounds_toArray, List.set_cons_zero, List.set_cons_succ]
    refine take_at (i := 7) (d := 15) (v := ?_) rfl rfl (by kernel_rfl) (by kernel_rfl) (by kernel_rfl) (fun _ _ _ h => h) (Or.inl ⟨by rfl, ?_⟩) (by assumption) ?_
    rotate_left
    · intro W hSW
      try dsimp only at hSW
      have g0 := cell_g t2 hSW
      have g1 := cell_g b2 hSW
      have g2 := cell_g br0 hSW
      have g3 := cell_g br1 hSW
      have g4 := cell_g br2 hSW
      go_simp
      try with_reducible rfl
    try simp only [Act.put, List.setIfInBounds_toArray, List.set_cons_zero, List.set_cons_succ]
    refine take_at (i := 8) (d := 16) (v := ?_) rfl rfl (by kernel_rfl) (by kernel_rfl) (by kernel_rfl) (fun _ _ _ h => h) (Or.inl ⟨by rfl, ?_⟩) (by assumption) ?_
    rotate_left
    · intro W hSW
      try dsimp only at hSW
      have g0 := cell_g t2 hSW
      have g1 := cell_g b2 hSW
      have g2 := cell_g br0 hSW
      have g3 := cell_g br1 hSW
      have g4 := cell_g br2 hSW
      go_simp
      try with_reducible rfl
    try simp only [Act.put, List.setIfInBounds_toArray, List.set_cons_zero, List.set_cons_succ]
    refine wpAnyH_ready (rs := [9, 13]) (by kernel_rfl) (by simp) ?_
    refine AllReadyH.cons rfl (fun K hK => ?_) ?_
    · go_simp
      go_wp2_with (go_at_call 64; refine (HL.out _ dr).mono ?_; rintro e w6 ⟨rfl, hg6⟩)
      have hG6 := grown_up dr hg6
      refine hK.out _ _ (hG6) (fun hHeld => ?_)
      clear hK K
      try simp only [Act.put, List.setIfInBounds_toArray, List.set_cons_zero, List.set_cons_succ]
      refine take_at (i := 10) (d := 7) (v := ?_) rfl rfl (by kernel_rfl) (by kernel_rfl) (by kernel_rfl) (fun _ _ _ h => h) (Or.inl ⟨by rfl, ?_⟩) (by assumption) ?_
      rotate_left
      · intro W hSW
        try dsimp only at hSW
        go_simp
        try with_reducible rfl
      try simp only [Act.put, List.setIfInBounds_toArray, List.set_cons_zero, List.set_cons_succ]
      refine take_at (i := 11) (d := 18) (v := ?_) rfl rfl (by kernel_rfl) (by kernel_rfl) (by kernel_rfl) (fun _ _ _ h => h) (Or.inl ⟨by rfl, ?_⟩) (by assumption) ?_
      rotate_left
      · intro W hSW
        try dsimp only at hSW
        go_simp
        try with_reducible rfl
      try simp only [Act.put, List.setIfInBounds_toArray, List.set_cons_zero, List.set_cons_succ]
      refine take_at (i := 12) (d := 19) (v := ?_) rfl rfl (by kernel_rfl) (by kernel_rfl) (by kernel_rfl) (fun _ _ _ h => h) (Or.inl ⟨by rfl, ?_⟩) (by assumption) ?_
      rotate_left
      · intro W hSW
        try dsimp only at hSW
        go_simp
        try with_reducible rfl
      try simp only [Act.put, List.setIfInBounds_toArray, List.set_cons_zero, List.set_cons_succ]
      refine wpAnyH_ready (rs := [13]) (by kernel_rfl) (by simp) ?_
      refine AllReadyH.cons rfl (fun K hK => ?_) ?_
      · go_simp
        have hG5 : W.grownBy (World.alloc w6 (.cells #[.int .i64 0, .int .i64 0, .string ⟨#[]⟩] 31)) none := grown_up hG6 (World.grownBy_alloc _ _ none)
        refine hK.out _ _ (hG5) (fun hHeld => ?_)
        clear hK K
        try simp only [Act.put, List.setIfInBounds_toArray, List.set_cons_zero, List.set_cons_succ]
        have hV5 : Vb (World.alloc w6 (.cells #[.int .i64 0, .int .i64 0, .string ⟨#[]⟩] 31)) w6.heap.size ⟨0, 0, ⟨#[]⟩⟩ := Vb.new _ ⟨0, 0, ⟨#[]⟩⟩
        have hp5 : W.heap.size ≤ w6.heap.size := hG6.size
        generalize (World.alloc w6 (.cells #[.int .i64 0, .int .i64 0, .string ⟨#[]⟩] 31)) = W5 at *
        obtain ⟨p5, hq5⟩ : ∃ p5, w6.heap.size = p5 := ⟨_, rfl⟩
        have hp5 : W.heap.size ≤ p5 := hq5 ▸ hp5
        rw [hq5] at hV5 ⊢
        refine wpAnyH_ready (rs := [14]) (by kernel_rfl) (by simp) ?_
        refine AllReadyH.cons rfl (fun K hK => ?_) ?_
        · have v0 := hV5.c0
          have v1 := hV5.c1
          have v2 := hV5.c2
          have vf := hV5.fz
          go_simp
          have hP := vb_set hV5 y
          have hG7 := grown_new hG5 hP.2 (fun j e => by cases e; exact hp5)
          refine hK.out _ _ (hG7) (fun hHeld => ?_)
          clear hK K
          try simp only [Act.put, List.setIfInBounds_toArray, List.set_cons_zero, List.set_cons_succ]
          refine take_at (i := 15) (d := 6) (v := ?_) rfl rfl (by kernel_rfl) (by kernel_rfl) (by kernel_rfl) (fun _ _ _ h => h) (Or.inl ⟨by rfl, ?_⟩) (by assumption) ?_
          rotate_left
          · intro W hSW
            try dsimp only at hSW
            go_simp
            try with_reducible rfl
          try simp only [Act.put, List.setIfInBounds_toArray, List.set_cons_zero, List.set_cons_succ]
          refine wpAnyH_done (by kernel_rfl) ?_ _
          go_wp2_with fail
          go_meet
          exact ⟨p5, rfl, rfl, hP.1, hp5, hG7⟩
        exact AllReadyH.nil
      exact AllReadyH.nil
    refine AllReadyH.cons rfl (fun K hK => ?_) ?_
    · go_simp
      have hG5 : W.grownBy (World.drew (World.alloc W (.cells #[.int .i64 0, .int .i64 0, .string ⟨#[]⟩] 31))) none := grown_up (World.grownBy_alloc W (.cells #[.int .i64 0, .int .i64 0, .string ⟨#[]⟩] 31) none) (grown_dr _)
      refine hK.out _ _ (hG5) (fun hHeld => ?_)
      clear hK K
      try simp only [Act.put, List.setIfInBounds_toArray, List.set_cons_zero, List.set_cons_succ]
      have hV5 : Vb (World.drew (World.alloc W (.cells #[.int .i64 0, .int .i64 0, .string ⟨#[]⟩] 31))) W.heap.size ⟨0, 0, ⟨#[]⟩⟩ := (Vb.new W ⟨0, 0, ⟨#[]⟩⟩).kept (grown_dr _) (by simp)
      have hp5 : W.heap.size ≤ W.heap.size := Nat.le_refl _
      generalize (World.drew (World.alloc W (.cells #[.int .i64 0, .int .i64 0, .string ⟨#[]⟩] 31))) = W5 at *
      obtain ⟨p5, hq5⟩ : ∃ p5, W.heap.size = p5 := ⟨_, rfl⟩
      have hp5 : W.heap.size ≤ p5 := hq5 ▸ hp5
      rw [hq5] at hV5 ⊢
      refine wpAnyH_ready (rs := [9]) (by kernel_rfl) (by simp) ?_
      refine AllReadyH.cons rfl (fun K hK => ?_) ?_
      · go_simp
        go_wp2_with (go_at_call 64; refine (HL.out _ hG5).mono ?_; rintro e w6 ⟨rfl, hg6⟩)
        have hG6 := grown_up hG5 hg6
        have hV6 := hV5.kept hg6 (by simp)
        refine hK.out _ _ (hG6) (fun hHeld => ?_)
        clear hK K
        try simp only [Act.put, List.setIfInBounds_toArray, List.set_cons_zero, List.set_cons_succ]
        refine take_at (i := 10) (d := 7) (v := ?_) rfl rfl (by kernel_rfl) (by kernel_rfl) (by kernel_rfl) (fun _ _ _ h => h) (Or.inl ⟨by rfl, ?_⟩) (by assumption) ?_
        rotate_left
        · intro W hSW
          try dsimp only at hSW
          go_simp
          try with_reducible rfl
        try simp only [Act.put, List.setIfInBounds_toArray, List.set_cons_zero, List.set_cons_succ]
        refine take_at (i := 11) (d := 18) (v := ?_) rfl rfl (by kernel_rfl) (by kernel_rfl) (by kernel_rfl) (fun _ _ _ h => h) (Or.inl ⟨by rfl, ?_⟩) (by assumption) ?_
        rotate_left
        · intro W hSW
          try dsimp only at hSW
          go_simp
          try with_reducible rfl
        try simp only [Act.put, List.setIfInBounds_toArray, List.set_cons_zero, List.set_cons_succ]
        refine take_at (i := 12) (d := 19) (v := ?_) rfl rfl (by kernel_rfl) (by kernel_rfl) (by kernel_rfl) (fun _ _ _ h => h) (Or.inl ⟨by rfl, ?_⟩) (by assumption) ?_
        rotate_left
        · intro W hSW
          try dsimp only at hSW
          go_simp
          try with_reducible rfl
        try simp only [Act.put, List.setIfInBounds_toArray, List.set_cons_zero, List.set_cons_succ]
        refine wpAnyH_ready (rs := [14]) (by kernel_rfl) (by simp) ?_
        refine AllReadyH.cons rfl (fun K hK => ?_) ?_
        · have v0 := hV6.c0
          have v1 := hV6.c1
          have v2 := hV6.c2
          have vf := hV6.fz
          go_simp
          have hP := vb_set hV6 y
          have hG7 := grown_new hG6 hP.2 (fun j e => by cases e; exact hp5)
          refine hK.out _ _ (hG7) (fun hHeld => ?_)
          clear hK K
          try simp only [Act.put, List.setIfInBounds_toArray, List.set_cons_zero, List.set_cons_succ]
          refine take_at (i := 15) (d := 6) (v := ?_) rfl rfl (by kernel_rfl) (by kernel_rfl) (by kernel_rfl) (fun _ _ _ h => h) (Or.inl ⟨by rfl, ?_⟩) (by assumption) ?_
          rotate_left
          · intro W hSW
            try dsimp only at hSW
            go_simp
            try with_reducible rfl
          try simp only [Act.put, List.setIfInBounds_toArray, List.set_cons_zero, List.set_cons_succ]
          refine wpAnyH_done (by kernel_rfl) ?_ _
          go_wp2_with fail
          go_meet
          exact ⟨p5, rfl, rfl, hP.1, hp5, hG7⟩
        exact AllReadyH.nil
      exact AllReadyH.nil
    exact AllReadyH.nil
  case rest =>
    obtain ⟨p5, rfl, rfl, hV, hp5, hg4⟩ := hcut
    have hM4 := hM1.keptN hg4
    have hb4 := hb.kept hg4 (by simp)
    have HG4 := hide (HG1.out.then (kp_n (B := B) hg4))
    clear t2 b0 b1 b2 b3 b4 b5 b6 ar0 ar1 ar2 br0 br1 br2 dr HL
    cases o with
    | none =>
      obtain rfl : y = ⟨0, 0, ⟨#[]⟩⟩ := HY.out.symm
      obtain rfl : z = false := HZ.out.symm
      have v0 := hV.c0
      have v1 := hV.c1
      have v2 := hV.c2
      dsimp only at v0 v1 v2
      go_upto_region 4 with (go_at_call 22; refine ((m_num _).out _).mono ?_; rintro e w6 ⟨rfl, hg6⟩; have hV6 := hV.kept hg6 (by simp); have v0 := hV6.c0; have v1 := hV6.c1; have v2 := hV6.c2; have vf := hV6.fz; have hP6 := vb_set hV6 ⟨1, 0, ⟨#[]⟩⟩; dsimp only at v0 v1 v2 hP6)
      have hqp : q < p5 := by have := hb.lt; omega
      have hM6 := hM4.keptN hg6
      have hM7 : Mb B _ g tv S _ pv ov kv := (hM6.kb hP6.2 (hM1.new hp5))
      have hb7 := (hb4.kept hg6 (by simp)).kept hP6.2 (by simp; omega)
      have HG7 := hide ((HG4.out.then (kp_n (B := B) hg6)).then (kp_of hP6.2 (hM1.newB hp5)))
      have hV7 := hP6.1
      clear v0 v1 v2 vf hV6 hP6 hM6 hM4 hb4 hV
      generalize ((w6.setCell ⟨p5, 0, none⟩ (.int .i64 1)).setCell ⟨p5, 1, none⟩ (.int .i64 0)).setCell ⟨p5, 2, none⟩ (.string ⟨#[]⟩) = W7 at *
      have hpr : r ≠ p5 := by have := hb.lt; omega
      have v0 := hV7.c0
      have v1 := hV7.c1
      have v2 := hV7.c2
      try dsimp only at v0 v1 v2
      obtain ⟨b0, b1, b2, b3, b4, b5, b6⟩ := hb7.cs
      dsimp only at b0 b1 b2 b3 b4 b5 b6
      have t2 := hM7.tb.c2
      obtain ⟨ar0, ar1, ar2, rf⟩ := rg_cells hM7 h6 a la
      have hP := set_raw hM7 h6 a la (1) (0) (⟨#[]⟩)
      have hV8 := (hV7.kept hP.2 (by simp; omega)).kept (grown_dr _) (by simp)
      have HM8 := hide (hP.1.keptN (grown_dr _))
      have HK8 := hide ((HG7.out.then (kp_of hP.2 hBr)).then (Kp.drew _ _))
      clear hP hM7 hb7
      go_region
      go_upto_region 5 with fail
      clear t2 b0 b1 b2 b3 b4 b5 b6 ar0 ar1 ar2 rf v0 v1 v2 hV7
      generalize World.drew (((W7.setCell ⟨r, a * 3, none⟩ (.int .i64 1)).setCell ⟨r, a * 3 + 1, none⟩ (.int .i64 0)).setCell ⟨r, a * 3 + 2, none⟩ (.string ⟨#[]⟩)) = W8 at *
      have v0 := hV8.c0
      have v1 := hV8.c1
      have v2 := hV8.c2
      try dsimp only at v0 v1 v2
      have hmay := m_mayBe (nV 0) W8 hvw
      clear hvw hV8
      unfold V.val at hmay
      try dsimp only at hmay
      cases hc : okC (nV 0) with
      | true =>
        rw [hc] at hmay
        have e : (if okC (nV 0) = true then Rs.go (S.set (a : Int) (nV 0)) else Rs.bad) = R := HR.out
        rw [hc, if_pos rfl] at e
        subst e
        clear hc
        go_wp2_with (go_at_call 18; refine hmay.mono ?_; rintro e w9 ⟨rfl, hg9⟩)
        go_ret
        exact DP.go (HM8.out.keptN hg9) (HK8.out.then (kp_n hg9))
      | false =>
        rw [hc] at hmay
        have e : (if okC (nV 0) = true then Rs.go (S.set (a : Int) (nV 0)) else Rs.bad) = R := HR.out
        rw [hc, if_neg (by simp)] at e
        subst e
        clear hc
        go_wp2_with (go_at_call 18; refine hmay.mono ?_; rintro e w9 ⟨rfl, hg9⟩)
        go_ret
        exact DP.bad (HK8.out.then (kp_n hg9))
    | some v =>
      obtain rfl : v = y := HY.out
      obtain rfl : z = true := HZ.out.symm
      go_upto_region 4 with fail
      have hM7 := hM4
      have hb7 := hb4
      have HG7 := HG4
      have hV7 := hV
      clear hM4 hb4 hV
      generalize wc = W7 at *
      have hpr : r ≠ p5 := by have := hb.lt; omega
      have v0 := hV7.c0
      have v1 := hV7.c1
      have v2 := hV7.c2
      try dsimp only at v0 v1 v2
      obtain ⟨b0, b1, b2, b3, b4, b5, b6⟩ := hb7.cs
      dsimp only at b0 b1 b2 b3 b4 b5 b6
      have t2 := hM7.tb.c2
      obtain ⟨ar0, ar1, ar2, rf⟩ := rg_cells hM7 h6 a la
      have hP := set_raw hM7 h6 a la (v.k) (v.n) (v.s)
      have hV8 := (hV7.kept hP.2 (by simp; omega)).kept (grown_dr _) (by simp)
      have HM8 := hide (hP.1.keptN (grown_dr _))
      have HK8 := hide ((HG7.out.then (kp_of hP.2 hBr)).then (Kp.drew _ _))
      clear hP hM7 hb7
      go_region
      go_upto_region 5 with fail
      clear t2 b0 b1 b2 b3 b4 b5 b6 ar0 ar1 ar2 rf v0 v1 v2 hV7
      generalize World.drew (((W7.setCell ⟨r, a * 3, none⟩ (.int .i64 v.k)).setCell ⟨r, a * 3 + 1, none⟩ (.int .i64 v.n)).setCell ⟨r, a * 3 + 2, none⟩ (.string v.s)) = W8 at *
      have v0 := hV8.c0
      have v1 := hV8.c1
      have v2 := hV8.c2
      try dsimp only at v0 v1 v2
      have hmay := m_mayBe v W8 hvw
      clear hvw hV8
      unfold V.val at hmay
      try dsimp only at hmay
      cases hc : okC v with
      | true =>
        rw [hc] at hmay
        have e : (if okC v = true then Rs.go (S.set (a : Int) v) else Rs.bad) = R := HR.out
        rw [hc, if_pos rfl] at e
        subst e
        clear hc
        go_wp2_with (go_at_call 18; refine hmay.mono ?_; rintro e w9 ⟨rfl, hg9⟩)
        go_ret
        exact DP.go (HM8.out.keptN hg9) (HK8.out.then (kp_n hg9))
      | false =>
        rw [hc] at hmay
        have e : (if okC v = true then Rs.go (S.set (a : Int) v) else Rs.bad) = R := HR.out
        rw [hc, if_neg (by simp)] at e
        subst e
        clear hc
        go_wp2_with (go_at_call 18; refine hmay.mono ?_; rintro e w9 ⟨rfl, hg9⟩)
        go_ret
        exact DP.bad (HK8.out.then (kp_n hg9))

end Go.Proofs.YtpoahegccjgnjaaGreatDoor
