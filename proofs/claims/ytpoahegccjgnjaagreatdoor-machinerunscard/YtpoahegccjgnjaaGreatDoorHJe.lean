/- Contracts, over the turned program: machine's deeds that reckon with two numbers. Conditions: those that each theorem states. Contracts, over the turned program: machine's sums. Conditions: those that each theorem states. -/
import Derived.Test.YtpoahegccjgnjaaGreatDoorHJi
import Derived.Test.YtpoahegccjgnjaaGreatDoorHJo
import Derived.Shelf.Abstract
import Derived.Deep.RegionLaw
import Derived.Deep.RegionHeld3
import Derived.Deep.CutRange
namespace Go.Proofs.YtpoahegccjgnjaaGreatDoor
open Go.RowKit
set_option linter.unusedVariables false

theorem m_addF (m n : Int) (w : World) : Calls Tryz.prog 58 #[.int .i64 m, .int .i64 n] w fun e w' => e = .returned (.int .i64 (wrap64 (m + n))) ∧ w' = w := by
  go_enter Tryz.func58, Tryz.ntmps58
  go_wp2
  go_ret
  exact ⟨rfl, rfl⟩
theorem m_subF (m n : Int) (w : World) : Calls Tryz.prog 59 #[.int .i64 m, .int .i64 n] w fun e w' => e = .returned (.int .i64 (wrap64 (m - n))) ∧ w' = w := by
  go_enter Tryz.func59, Tryz.ntmps59
  go_wp2
  go_ret
  exact ⟨rfl, rfl⟩
theorem m_mulF (m n : Int) (w : World) : Calls Tryz.prog 60 #[.int .i64 m, .int .i64 n] w fun e w' => e = .returned (.int .i64 (wrap64 (m * n))) ∧ w' = w := by
  go_enter Tryz.func60, Tryz.ntmps60
  go_wp2
  go_ret
  exact ⟨rfl, rfl⟩
set_option maxRecDepth 100000 in
set_option maxHeartbeats 1000000 in
theorem m_reckon (B : Bd) (g : Nat) (tv rv pv ov kv : Value) (S : Ms) (x : V) (op : Int) (a b c : Nat) (la : a < 6) (lb : b < 6) (lc : c < 6) (w : World) (hM : Mb B w g tv S rv pv ov kv) (h6 : S.rg.length = 6) (f : Nat) (F : Int → Int → Int) (hF : ∀ m n w, Calls Tryz.prog f #[.int .i64 m, .int .i64 n] w fun e w' => e = .returned (.int .i64 (wrap64 (F m n))) ∧ w' = w) (hent : ∀ args W, (callFunc f args).run Tryz.prog W = .ok (.enter f args) W) :
    Calls Tryz.prog 57 #[.pointer (some ⟨g, 0, none⟩), (⟨op, (a : Int), (b : Int), (c : Int), x⟩ : In).val, .func (.func f) #[] #[]] w fun e w' => DP B w g tv (S.sum ⟨op, (a : Int), (b : Int), (c : Int), x⟩ F) e w' := by
  obtain ⟨r, cap, rfl, hBr, hr, hrg⟩ := at_cells hM h6
  have hgb := World.grownBy_alloc w (.cells #[.int .i64 op, .int .i64 (a : Int), .int .i64 (b : Int), .int .i64 (c : Int), .int .i64 x.k, .int .i64 x.n, .string x.s] 44) none
  have hb : Ib (w.alloc (.cells #[.int .i64 op, .int .i64 (a : Int), .int .i64 (b : Int), .int .i64 (c : Int), .int .i64 x.k, .int .i64 x.n, .string x.s] 44)) w.heap.size ⟨op, (a : Int), (b : Int), (c : Int), x⟩ := Ib.new w ⟨op, (a : Int), (b : Int), (c : Int), x⟩
  have hM1 := hM.keptN hgb
  have la' : (a : Int) < 6 := by omega
  have lb' : (b : Int) < 6 := by omega
  have lc' : (c : Int) < 6 := by omega
  obtain ⟨R, HR⟩ : ∃ R, Hid (S.sum ⟨op, (a : Int), (b : Int), (c : Int), x⟩ F = R) := ⟨_, rfl⟩
  rw [HR.out]
  have HF := hide hF
  clear hF
  unfold In.val
  dsimp only
  go_enter Tryz.func57, Tryz.ntmps57
  go_upto_region 1 with fail
  have HG1 := hide (kp_n (B := B) hgb)
  generalize w.alloc (.cells #[.int .i64 op, .int .i64 (a : Int), .int .i64 (b : Int), .int .i64 (c : Int), .int .i64 x.k, .int .i64 x.n, .string x.s] 44) = W at *
  have hqg : g < w.heap.size := hM.lt
  generalize hq : w.heap.size = q at *
  have hboth := m_both B g tv (.slice (some ⟨r, 0, none⟩) 6 cap) pv ov kv S x op (a : Int) b c lb lc W hM1 h6 1
  unfold In.val at hboth
  dsimp only at hboth
  obtain ⟨b0, b1, b2, b3, b4, b5, b6⟩ := hb.cs
  dsimp only at b0 b1 b2 b3 b4 b5 b6
  cases hk : ((S.at (b : Int)).k == 1 && (S.at (c : Int)).k == 1) with
  | false =>
    rw [hk] at hboth
    have e := HR.out
    unfold Ms.sum at e
    rw [if_neg (by rintro ⟨h1, h2⟩; dsimp only at h1 h2; rw [h1, h2] at hk; simp at hk)] at e
    subst e
    go_wp2_with (go_at_call 61; refine hboth.mono ?_; rintro e w2 ⟨rfl, hg2⟩)
    go_ret
    exact DP.bad (HG1.out.then (kp_n hg2))
  | true =>
    rw [hk] at hboth
    have e := HR.out
    unfold Ms.sum at e
    rw [Bool.and_eq_true, beq_iff_eq, beq_iff_eq] at hk
    rw [if_pos hk] at e
    dsimp only at e
    clear hk
    subst e
    have hb' := hb
    go_upto_region 3 with (go_at_call 61; refine hboth.mono ?_; rintro e w2 ⟨rfl, hg2⟩)
    have hM2 := hM1.keptN hg2
    have hb2 := hb'.kept hg2 (by simp)
    have HG2 := hide (HG1.out.then (kp_n (B := B) hg2))
    clear hM1 hM hb hb' b0 b1 b2 b3 b4 b5 b6 hboth
    obtain ⟨b0, b1, b2, b3, b4, b5, b6⟩ := hb2.cs
    dsimp only at b0 b1 b2 b3 b4 b5 b6
    have t2 := hM2.tb.c2
    obtain ⟨ar0, ar1, ar2, rf⟩ := rg_cells hM2 h6 a la
    obtain ⟨br0, br1, br2, rf⟩ := rg_cells hM2 h6 b lb
    obtain ⟨cr0, cr1, cr2, rf⟩ := rg_cells hM2 h6 c lc
    have ng : ¬ only r g := fun e => hrg e.symm
    have nq : ¬ only r q := fun e => by unfold only at e; omega
    refine wp_region_held_drew (S := fun W => Kp (only r) w2 W) (by kernel_rfl) (Kp.drew _ _) (fun hHeld => ?_)
    refine take_at (i := 0) (d := 11) (v := ?_) rfl rfl (by kernel_rfl) (by kernel_rfl) (by kernel_rfl) (fun _ _ _ h => h) (Or.inl ⟨by rfl, ?_⟩) (by assumption) ?_
    rotate_left
    · intro W hSW
      try dsimp only at hSW
      have g0 := hSW.cell t2 ng
      have g1 := hSW.cell b1 nq
      have g2 := hSW.cell b2 nq
      have g3 := hSW.cell b3 nq
      go_simp
      try with_reducible rfl
    try simp only [Act.put, List.setIfInBounds_toArray, List.set_cons_zero, List.set_cons_succ]
    refine take_at (i := 1) (d := 12) (v := ?_) rfl rfl (by kernel_rfl) (by kernel_rfl) (by kernel_rfl) (fun _ _ _ h => h) (Or.inl ⟨by rfl, ?_⟩) (by assumption) ?_
    rotate_left
    · intro W hSW
      try dsimp only at hSW
      have g0 := hSW.cell t2 ng
      have g1 := hSW.cell b1 nq
      have g2 := hSW.cell b2 nq
      have g3 := hSW.cell b3 nq
      go_simp
      try with_reducible rfl
    try simp only [Act.put, List.setIfInBounds_toArray, List.set_cons_zero, List.set_cons_succ]
    refine take_at (i := 2) (d := 13) (v := ?_) rfl rfl (by kernel_rfl) (by kernel_rfl) (by kernel_rfl) (fun _ _ _ h => h) (Or.inl ⟨by rfl, ?_⟩) (by assumption) ?_
    rotate_left
    · intro W hSW
      try dsimp only at hSW
      have g0 := hSW.cell t2 ng
      have g1 := hSW.cell b1 nq
      have g2 := hSW.cell b2 nq
      have g3 := hSW.cell b3 nq
      go_simp
      try with_reducible rfl
    try simp only [Act.put, List.setIfInBounds_toArray, List.set_cons_zero, List.set_cons_succ]
    refine take_at (i := 3) (d := 14) (v := ?_) rfl rfl (by kernel_rfl) (by kernel_rfl) (by kernel_rfl) (fun _ _ _ h => h) (Or.inl ⟨by rfl, ?_⟩) (by assumption) ?_
    rotate_left
    · intro W hSW
      try dsimp only at hSW
      have g0 := hSW.cell t2 ng
      have g1 := hSW.cell b1 nq
      have g2 := hSW.cell b2 nq
      have g3 := hSW.cell b3 nq
      go_simp
      try with_reducible rfl
    try simp only [Act.put, List.setIfInBounds_toArray, List.set_cons_zero, List.set_cons_succ]
    refine take_at (i := 4) (d := 15) (v := ?_) rfl rfl (by kernel_rfl) (by kernel_rfl) (by kernel_rfl) (fun _ _ _ h => h) (Or.inl ⟨by rfl, ?_⟩) (by assumption) ?_
    rotate_left
    · intro W hSW
      try dsimp only at hSW
      have g0 := hSW.cell t2 ng
      have g1 := hSW.cell b1 nq
      have g2 := hSW.cell b2 nq
      have g3 := hSW.cell b3 nq
      go_simp
      try with_reducible rfl
    try simp only [Act.put, List.setIfInBounds_toArray, List.set_cons_zero, List.set_cons_succ]
    refine take_at (i := 5) (d := 16) (v := ?_) rfl rfl (by kernel_rfl) (by kernel_rfl) (by kernel_rfl) (fun _ _ _ h => h) (Or.inl ⟨by rfl, ?_⟩) (by assumption) ?_
    rotate_left
    · intro W hSW
      try dsimp only at hSW
      have g0 := hSW.cell t2 ng
      have g1 := hSW.cell b1 nq
      have g2 := hSW.cell b2 nq
      have g3 := hSW.cell b3 nq
      go_simp
      try with_reducible rfl
    try simp only [Act.put, List.setIfInBounds_toArray, List.set_cons_zero, List.set_cons_succ]
    refine take_at (i := 6) (d := 17) (v := ?_) rfl rfl (by kernel_rfl) (by kernel_rfl) (by kernel_rfl) (fun _ _ _ h => h) (Or.inl ⟨by rfl, ?_⟩) (by assumption) ?_
    rotate_left
    · intro W hSW
      try dsimp only at hSW
      have g0 := hSW.cell t2 ng
      have g1 := hSW.cell b1 nq
      have g2 := hSW.cell b2 nq
      have g3 := hSW.cell b3 nq
      go_simp
      try with_reducible rfl
    try simp only [Act.put, List.setIfInBounds_toArray, List.set_cons_zero, List.set_cons_succ]
    refine take_at (i := 7) (d := 18) (v := ?_) rfl rfl (by kernel_rfl) (by kernel_rfl) (by kernel_rfl) (fun _ _ _ h => h) (Or.inl ⟨by rfl, ?_⟩) (by assumption) ?_
    rotate_left
    · intro W hSW
      try dsimp only at hSW
      have g0 := hSW.cell t2 ng
      have g1 := hSW.cell b1 nq
      have g2 := hSW.cell b2 nq
      have g3 := hSW.cell b3 nq
      go_simp
      try with_reducible rfl
    try simp only [Act.put, List.setIfInBounds_toArray, List.set_cons_zero, List.set_cons_succ]
    refine take_at (i := 8) (d := 19) (v := ?_) rfl rfl (by kernel_rfl) (by kernel_rfl) (by kernel_rfl) (fun _ _ _ h => h) (Or.inl ⟨by rfl, ?_⟩) (by assumption) ?_
    rotate_left
    · intro W hSW
      try dsimp only at hSW
      have g0 := hSW.cell t2 ng
      have g1 := hSW.cell b1 nq
      have g2 := hSW.cell b2 nq
      have g3 := hSW.cell b3 nq
      go_simp
      try with_reducible rfl
    try simp only [Act.put, List.setIfInBounds_toArray, List.set_cons_zero, List.set_cons_succ]
    refine take_at (i := 9) (d := 20) (v := ?_) rfl rfl (by kernel_rfl) (by kernel_rfl) (by kernel_rfl) (fun _ _ _ h => h) (Or.inl ⟨by rfl, ?_⟩) (by assumption) ?_
    rotate_left
    · intro W hSW
      try dsimp only at hSW
      have g0 := hSW.cell t2 ng
      have g1 := hSW.cell b1 nq
      have g2 := hSW.cell b2 nq
      have g3 := hSW.cell b3 nq
      go_simp
      try with_reducible rfl
    try simp only [Act.put, List.setIfInBounds_toArray, List.set_cons_zero, List.set_cons_succ]
    refine take_at (i := 10) (d := 21) (v := ?_) rfl rfl (by kernel_rfl) (by kernel_rfl) (by kernel_rfl) (fun _ _ _ h => h) (Or.inl ⟨by rfl, ?_⟩) (by assumption) ?_
    rotate_left
    · intro W hSW
      try dsimp only at hSW
      have g0 := hSW.cell t2 ng
      have g1 := hSW.cell b1 nq
      have g2 := hSW.cell b2 nq
      have g3 := hSW.cell b3 nq
      go_simp
      try with_reducible rfl
    try simp only [Act.put, List.setIfInBounds_toArray, List.set_cons_zero, List.set_cons_succ]
    refine take_at (i := 11) (d := 22) (v := ?_) rfl rfl (by kernel_rfl) (by kernel_rfl) (by kernel_rfl) (fun _ _ _ h => h) (Or.inl ⟨by rfl, ?_⟩) (by assumption) ?_
    rotate_left
    · intro W hSW
      try dsimp only at hSW
      have g0 := hSW.cell t2 ng
      have g1 := hSW.cell b1 nq
      have g2 := hSW.cell b2 nq
      have g3 := hSW.cell b3 nq
      go_simp
      try with_reducible rfl
    try simp only [Act.put, List.setIfInBounds_toArray, List.set_cons_zero, List.set_cons_succ]
    refine take_at (i := 12) (d := 23) (v := ?_) rfl rfl (by kernel_rfl) (by kernel_rfl) (by kernel_rfl) (fun _ _ _ h => h) (Or.inl ⟨by rfl, ?_⟩) (by assumption) ?_
    rotate_left
    · intro W hSW
      try dsimp only at hSW
      have g0 := hSW.cell t2 ng
      have g1 := hSW.cell b1 nq
      have g2 := hSW.cell b2 nq
      have g3 := hSW.cell b3 nq
      go_simp
      try with_reducible rfl
    try simp only [Act.put, List.setIfInBounds_toArray, List.set_cons_zero, List.set_cons_succ]
    refine take_at (i := 13) (d := 24) (v := ?_) rfl rfl (by kernel_rfl) (by kernel_rfl) (by kernel_rfl) (fun _ _ _ h => h) (Or.inl ⟨by rfl, ?_⟩) (by assumption) ?_
    rotate_left
    · intro W hSW
      try dsimp only at hSW
      have g0 := hSW.cell t2 ng
      have g1 := hSW.cell b1 nq
      have g2 := hSW.cell b2 nq
      have g3 := hSW.cell b3 nq
      go_simp
      try with_reducible rfl
    try simp only [Act.put, List.setIfInBounds_toArray, List.set_cons_zero, List.set_cons_succ]
    refine take_at (i := 14) (d := 25) (v := ?_) rfl rfl (by kernel_rfl) (by kernel_rfl) (by kernel_rfl) (fun _ _ _ h => h) (Or.inl ⟨by rfl, ?_⟩) (by assumption) ?_
    rotate_left
    · intro W hSW
      try dsimp only at hSW
      have g0 := hSW.cell t2 ng
      have g1 := hSW.cell b1 nq
      have g2 := hSW.cell b2 nq
      have g3 := hSW.cell b3 nq
      go_simp
      try with_reducible rfl
    try simp only [Act.put, List.setIfInBounds_toArray, List.set_cons_zero, List.set_cons_succ]
    refine take_at (i := 16) (d := 27) (v := ?_) rfl rfl (by kernel_rfl) (by kernel_rfl) (by kernel_rfl) (fun _ _ _ h => h) (Or.inl ⟨by rfl, ?_⟩) (by assumption) ?_
    rotate_left
    · intro W hSW
      try dsimp only at hSW
      have g0 := hSW.cell t2 ng
      have g1 := hSW.cell b1 nq
      have g2 := hSW.cell b2 nq
      have g3 := hSW.cell b3 nq
      go_simp
      try with_reducible rfl
    try simp only [Act.put, List.setIfInBounds_toArray, List.set_cons_zero, List.set_cons_succ]
    refine take_at (i := 17) (d := 28) (v := ?_) rfl rfl (by kernel_rfl) (by kernel_rfl) (by kernel_rfl) (fun _ _ _ h => h) (Or.inl ⟨by rfl, ?_⟩) (by assumption) ?_
    rotate_left
    · intro W hSW
      try dsimp only at hSW
      have g0 := hSW.cell t2 ng
      have g1 := hSW.cell b1 nq
      have g2 := hSW.cell b2 nq
      have g3 := hSW.cell b3 nq
      go_simp
      try with_reducible rfl
    try simp only [Act.put, List.setIfInBounds_toArray, List.set_cons_zero, List.set_cons_succ]
    refine take_at (i := 18) (d := 29) (v := ?_) rfl rfl (by kernel_rfl) (by kernel_rfl) (by kernel_rfl) (fun _ _ _ h => h) (Or.inl ⟨by rfl, ?_⟩) (by assumption) ?_
    rotate_left
    · intro W hSW
      try dsimp only at hSW
      have g0 := hSW.cell t2 ng
      have g1 := hSW.cell b1 nq
      have g2 := hSW.cell b2 nq
      have g3 := hSW.cell b3 nq
      go_simp
      try with_reducible rfl
    try simp only [Act.put, List.setIfInBounds_toArray, List.set_cons_zero, List.set_cons_succ]
    refine take_at (i := 19) (d := 30) (v := ?_) rfl rfl (by kernel_rfl) (by kernel_rfl) (by kernel_rfl) (fun _ _ _ h => h) (Or.inl ⟨by rfl, ?_⟩) (by assumption) ?_
    rotate_left
    · intro W hSW
      try dsimp only at hSW
      have g0 := hSW.cell t2 ng
      have g1 := hSW.cell b1 nq
      have g2 := hSW.cell b2 nq
      have g3 := hSW.cell b3 nq
      go_simp
      try with_reducible rfl
    try simp only [Act.put, List.setIfInBounds_toArray, List.set_cons_zero, List.set_cons_succ]
    refine take_at (i := 20) (d := 31) (v := ?_) rfl rfl (by kernel_rfl) (by kernel_rfl) (by kernel_rfl) (fun _ _ _ h => h) (Or.inl ⟨by rfl, ?_⟩) (by assumption) ?_
    rotate_left
    · intro W hSW
      try dsimp only at hSW
      have g0 := hSW.cell t2 ng
      have g1 := hSW.cell b1 nq
      have g2 := hSW.cell b2 nq
      have g3 := hSW.cell b3 nq
      go_simp
      try with_reducible rfl
    try simp only [Act.put, List.setIfInBounds_toArray, List.set_cons_zero, List.set_cons_succ]
    refine take_at (i := 21) (d := 32) (v := ?_) rfl rfl (by kernel_rfl) (by kernel_rfl) (by kernel_rfl) (fun _ _ _ h => h) (Or.inl ⟨by rfl, ?_⟩) (by assumption) ?_
    rotate_left
    · intro W hSW
      try dsimp only at hSW
      have g0 := hSW.cell t2 ng
      have g1 := hSW.cell b1 nq
      have g2 := hSW.cell b2 nq
      have g3 := hSW.cell b3 nq
      go_simp
      try with_reducible rfl
    try simp only [Act.put, List.setIfInBounds_toArray, List.set_cons_zero, List.set_cons_succ]
    refine take_at (i := 22) (d := 33) (v := ?_) rfl rfl (by kernel_rfl) (by kernel_rfl) (by kernel_rfl) (fun _ _ _ h => h) (Or.inl ⟨by rfl, ?_⟩) (by assumption) ?_
    rotate_left
    · intro W hSW
      try dsimp only at hSW
      have g0 := hSW.cell t2 ng
      have g1 := hSW.cell b1 nq
      have g2 := hSW.cell b2 nq
      have g3 := hSW.cell b3 nq
      go_simp
      try with_reducible rfl
    try simp only [Act.put, List.setIfInBounds_toArray, List.set_cons_zero, List.set_cons_succ]
    refine take_at (i := 23) (d := 34) (v := ?_) rfl rfl (by kernel_rfl) (by kernel_rfl) (by kernel_rfl) (fun _ _ _ h => h) (Or.inl ⟨by rfl, ?_⟩) (by assumption) ?_
    rotate_left
    · intro W hSW
      try dsimp only at hSW
      have g0 := hSW.cell t2 ng
      have g1 := hSW.cell b1 nq
      have g2 := hSW.cell b2 nq
      have g3 := hSW.cell b3 nq
      go_simp
      try with_reducible rfl
    try simp only [Act.put, List.setIfInBounds_toArray, List.set_cons_zero, List.set_cons_succ]
    refine wpAnyH_ready (rs := [15, 24]) (by kernel_rfl) (by simp) ?_
    refine AllReadyH.cons rfl (fun K hK => ?_) ?_
    · go_simp
      refine hK.out _ _ (Kp.drew _ _) (fun hHeld => ?_)
      clear hK K
      try simp only [Act.put, List.setIfInBounds_toArray, List.set_cons_zero, List.set_cons_succ]
      refine wpAnyH_ready (rs := [24]) (by kernel_rfl) (by simp) ?_
      refine AllReadyH.cons rfl (fun K hK => ?_) ?_
      · go_simp
        refine hK.out _ _ (Kp.drew _ _) (fun hHeld => ?_)
        clear hK K
        try simp only [Act.put, List.setIfInBounds_toArray, List.set_cons_zero, List.set_cons_succ]
        refine wpAnyH_ready (rs := [25]) (by kernel_rfl) (by simp) ?_
        refine AllReadyH.cons rfl (fun K hK => ?_) ?_
        · go_simp
          go_wp2_with (refine (HF.out _ _ _).mono ?_; rintro e w5 ⟨rfl, hw5⟩; have hw5 := hw5.symm; subst hw5)
          refine hK.out _ _ (Kp.drew _ _) (fun hHeld => ?_)
          clear hK K
          try simp only [Act.put, List.setIfInBounds_toArray, List.set_cons_zero, List.set_cons_succ]
          refine wpAnyH_ready (rs := [26]) (by kernel_rfl) (by simp) ?_
          refine AllReadyH.cons rfl (fun K hK => ?_) ?_
          · go_simp
            go_wp2_with (go_at_call 22; refine ((m_num _).out _).mono ?_; rintro e w3 ⟨rfl, hg3⟩; have S3 : w2.grownBy w3 none := grown_up (grown_dr w2) hg3; have hM3 := hM2.keptN S3; obtain ⟨x0, x1, x2, xf⟩ := rg_cells hM3 h6 a la)
            refine hK.out _ _ (Kp.ofN S3 _) (fun hHeld => ?_)
            clear hK K
            try simp only [Act.put, List.setIfInBounds_toArray, List.set_cons_zero, List.set_cons_succ]
            refine take_at (i := 27) (d := 38) (v := ?_) rfl rfl (by kernel_rfl) (by kernel_rfl) (by kernel_rfl) (fun _ _ _ h => h) (Or.inl ⟨by rfl, ?_⟩) (by assumption) ?_
            rotate_left
            · intro W hSW
              try dsimp only at hSW
              have g0 := hSW.cell t2 ng
              have g1 := hSW.cell b1 nq
              have g2 := hSW.cell b2 nq
              have g3 := hSW.cell b3 nq
              go_simp
              try with_reducible rfl
            try simp only [Act.put, List.setIfInBounds_toArray, List.set_cons_zero, List.set_cons_succ]
            refine wpAnyH_ready (rs := [28]) (by kernel_rfl) (by simp) ?_
            refine AllReadyH.cons rfl (fun K hK => ?_) ?_
            · go_simp
              have hP := set_raw hM3 h6 a la 1 (wrap64 (F (S.at (b : Int)).n (S.at (c : Int)).n)) ⟨#[]⟩
              refine hK.out _ _ ((Kp.ofN S3 _).then (Kp.ofGrown hP.2 (fun k e _ => by cases e; rfl))) (fun hHeld => ?_)
              clear hK K
              try simp only [Act.put, List.setIfInBounds_toArray, List.set_cons_zero, List.set_cons_succ]
              refine wpAnyH_done (by kernel_rfl) ?_ _
              go_wp2
              go_ret
              exact DP.go hP.1 ((HG2.out.then (kp_n S3)).then (kp_of hP.2 hBr))
            exact AllReadyH.nil
          exact AllReadyH.nil
        exact AllReadyH.nil
      exact AllReadyH.nil
    refine AllReadyH.cons rfl (fun K hK => ?_) ?_
    · go_simp
      refine hK.out _ _ (Kp.drew _ _) (fun hHeld => ?_)
      clear hK K
      try simp only [Act.put, List.setIfInBounds_toArray, List.set_cons_zero, List.set_cons_succ]
      refine wpAnyH_ready (rs := [15]) (by kernel_rfl) (by simp) ?_
      refine AllReadyH.cons rfl (fun K hK => ?_) ?_
      · go_simp
        refine hK.out _ _ (Kp.drew _ _) (fun hHeld => ?_)
        clear hK K
        try simp only [Act.put, List.setIfInBounds_toArray, List.set_cons_zero, List.set_cons_succ]
        refine wpAnyH_ready (rs := [25]) (by kernel_rfl) (by simp) ?_
        refine AllReadyH.cons rfl (fun K hK => ?_) ?_
        · go_simp
          go_wp2_with (refine (HF.out _ _ _).mono ?_; rintro e w5 ⟨rfl, hw5⟩; have hw5 := hw5.symm; subst hw5)
          refine hK.out _ _ (Kp.drew _ _) (fun hHeld => ?_)
          clear hK K
          try simp only [Act.put, List.setIfInBounds_toArray, List.set_cons_zero, List.set_cons_succ]
          refine wpAnyH_ready (rs := [26]) (by kernel_rfl) (by simp) ?_
          refine AllReadyH.cons rfl (fun K hK => ?_) ?_
          · go_simp
            go_wp2_with (go_at_call 22; refine ((m_num _).out _).mono ?_; rintro e w3 ⟨rfl, hg3⟩; have S3 : w2.grownBy w3 none := grown_up (grown_dr w2) hg3; have hM3 := hM2.keptN S3; obtain ⟨x0, x1, x2, xf⟩ := rg_cells hM3 h6 a la)
            refine hK.out _ _ (Kp.ofN S3 _) (fun hHeld => ?_)
            clear hK K
            try simp only [Act.put, List.setIfInBounds_toArray, List.set_cons_zero, List.set_cons_succ]
            refine take_at (i := 27) (d := 38) (v := ?_) rfl rfl (by kernel_rfl) (by kernel_rfl) (by kernel_rfl) (fun _ _ _ h => h) (Or.inl ⟨by rfl, ?_⟩) (by assumption) ?_
            rotate_left
            · intro W hSW
              try dsimp only at hSW
              have g0 := hSW.cell t2 ng
              have g1 := hSW.cell b1 nq
              have g2 := hSW.cell b2 nq
              have g3 := hSW.cell b3 nq
              go_simp
              try with_reducible rfl
            try simp only [Act.put, List.setIfInBounds_toArray, List.set_cons_zero, List.set_cons_succ]
            refine wpAnyH_ready (rs := [28]) (by kernel_rfl) (by simp) ?_
            refine AllReadyH.cons rfl (fun K hK => ?_) ?_
            · go_simp
              have hP := set_raw hM3 h6 a la 1 (wrap64 (F (S.at (b : Int)).n (S.at (c : Int)).n)) ⟨#[]⟩
              refine hK.out _ _ ((Kp.ofN S3 _).then (Kp.ofGrown hP.2 (fun k e _ => by cases e; rfl))) (fun hHeld => ?_)
              clear hK K
              try simp only [Act.put, List.setIfInBounds_toArray, List.set_cons_zero, List.set_cons_succ]
              refine wpAnyH_done (by kernel_rfl) ?_ _
              go_wp2
              go_ret
              exact DP.go hP.1 ((HG2.out.then (kp_n S3)).then (kp_of hP.2 hBr))
            exact AllReadyH.nil
          exact AllReadyH.nil
        exact AllReadyH.nil
      exact AllReadyH.nil
    exact AllReadyH.nil

end Go.Proofs.YtpoahegccjgnjaaGreatDoor

namespace Go.Proofs.YtpoahegccjgnjaaGreatDoor
open Go.RowKit
set_option linter.unusedVariables false

set_option maxRecDepth 100000 in
set_option maxHeartbeats 1000000 in
theorem m_add (B : Bd) (g : Nat) (tv rv pv ov kv : Value) (S : Ms) (x : V) (op : Int) (a b c : Nat) (la : a < 6) (lb : b < 6) (lc : c < 6) (w : World) (hM : Mb B w g tv S rv pv ov kv) (h6 : S.rg.length = 6) :
    Calls Tryz.prog 25 #[.pointer (some ⟨g, 0, none⟩), (⟨op, (a : Int), (b : Int), (c : Int), x⟩ : In).val] w fun e w' => DP B w g tv (S.sum ⟨op, (a : Int), (b : Int), (c : Int), x⟩ (· + ·)) e w' := by
  obtain ⟨r, cap, rfl, hBr, hr, hrg⟩ := at_cells hM h6
  have hgb := World.grownBy_alloc w (.cells #[.int .i64 op, .int .i64 (a : Int), .int .i64 (b : Int), .int .i64 (c : Int), .int .i64 x.k, .int .i64 x.n, .string x.s] 44) none
  have hb : Ib (w.alloc (.cells #[.int .i64 op, .int .i64 (a : Int), .int .i64 (b : Int), .int .i64 (c : Int), .int .i64 x.k, .int .i64 x.n, .string x.s] 44)) w.heap.size ⟨op, (a : Int), (b : Int), (c : Int), x⟩ := Ib.new w ⟨op, (a : Int), (b : Int), (c : Int), x⟩
  have hM1 := hM.keptN hgb
  have la' : (a : Int) < 6 := by omega
  have lb' : (b : Int) < 6 := by omega
  have lc' : (c : Int) < 6 := by omega
  obtain ⟨R, HR⟩ : ∃ R, Hid (S.sum ⟨op, (a : Int), (b : Int), (c : Int), x⟩ (· + ·) = R) := ⟨_, rfl⟩
  rw [HR.out]
  unfold In.val
  dsimp only
  go_enter Tryz.func25, Tryz.ntmps25
  go_upto_region 1 with fail
  have HG1 := hide (kp_n (B := B) hgb)
  generalize w.alloc (.cells #[.int .i64 op, .int .i64 (a : Int), .int .i64 (b : Int), .int .i64 (c : Int), .int .i64 x.k, .int .i64 x.n, .string x.s] 44) = W at *
  have hqg : g < w.heap.size := hM.lt
  generalize hq : w.heap.size = q at *
  have h := m_reckon B g tv (.slice (some ⟨r, 0, none⟩) 6 cap) pv ov kv S x op a b c la lb lc W hM1 h6 58 (· + ·) m_addF (enters_of Tryz.func58 (by kernel_rfl) rfl)
  rw [HR.out] at h
  unfold In.val at h
  dsimp only at h
  obtain ⟨b0, b1, b2, b3, b4, b5, b6⟩ := hb.cs
  dsimp only at b0 b1 b2 b3 b4 b5 b6
  go_wp2_with (go_at_call 57; refine h.mono ?_; rintro e w2 hD; obtain ⟨bb, rfl, hR, hk⟩ := hD)
  go_ret
  exact ⟨bb, rfl, hR, HG1.out.then hk⟩

set_option maxRecDepth 100000 in
set_option maxHeartbeats 1000000 in
theorem m_sub (B : Bd) (g : Nat) (tv rv pv ov kv : Value) (S : Ms) (x : V) (op : Int) (a b c : Nat) (la : a < 6) (lb : b < 6) (lc : c < 6) (w : World) (hM : Mb B w g tv S rv pv ov kv) (h6 : S.rg.length = 6) :
    Calls Tryz.prog 26 #[.pointer (some ⟨g, 0, none⟩), (⟨op, (a : Int), (b : Int), (c : Int), x⟩ : In).val] w fun e w' => DP B w g tv (S.sum ⟨op, (a : Int), (b : Int), (c : Int), x⟩ (· - ·)) e w' := by
  obtain ⟨r, cap, rfl, hBr, hr, hrg⟩ := at_cells hM h6
  have hgb := World.grownBy_alloc w (.cells #[.int .i64 op, .int .i64 (a : Int), .int .i64 (b : Int), .int .i64 (c : Int), .int .i64 x.k, .int .i64 x.n, .string x.s] 44) none
  have hb : Ib (w.alloc (.cells #[.int .i64 op, .int .i64 (a : Int), .int .i64 (b : Int), .int .i64 (c : Int), .int .i64 x.k, .int .i64 x.n, .string x.s] 44)) w.heap.size ⟨op, (a : Int), (b : Int), (c : Int), x⟩ := Ib.new w ⟨op, (a : Int), (b : Int), (c : Int), x⟩
  have hM1 := hM.keptN hgb
  have la' : (a : Int) < 6 := by omega
  have lb' : (b : Int) < 6 := by omega
  have lc' : (c : Int) < 6 := by omega
  obtain ⟨R, HR⟩ : ∃ R, Hid (S.sum ⟨op, (a : Int), (b : Int), (c : Int), x⟩ (· - ·) = R) := ⟨_, rfl⟩
  rw [HR.out]
  unfold In.val
  dsimp only
  go_enter Tryz.func26, Tryz.ntmps26
  go_upto_region 1 with fail
  have HG1 := hide (kp_n (B := B) hgb)
  generalize w.alloc (.cells #[.int .i64 op, .int .i64 (a : Int), .int .i64 (b : Int), .int .i64 (c : Int), .int .i64 x.k, .int .i64 x.n, .string x.s] 44) = W at *
  have hqg : g < w.heap.size := hM.lt
  generalize hq : w.heap.size = q at *
  have h := m_reckon B g tv (.slice (some ⟨r, 0, none⟩) 6 cap) pv ov kv S x op a b c la lb lc W hM1 h6 59 (· - ·) m_subF (enters_of Tryz.func59 (by kernel_rfl) rfl)
  rw [HR.out] at h
  unfold In.val at h
  dsimp only at h
  obtain ⟨b0, b1, b2, b3, b4, b5, b6⟩ := hb.cs
  dsimp only at b0 b1 b2 b3 b4 b5 b6
  go_wp2_with (go_at_call 57; refine h.mono ?_; rintro e w2 hD; obtain ⟨bb, rfl, hR, hk⟩ := hD)
  go_ret
  exact ⟨bb, rfl, hR, HG1.out.then hk⟩

set_option maxRecDepth 100000 in
set_option maxHeartbeats 1000000 in
theorem m_mul (B : Bd) (g : Nat) (tv rv pv ov kv : Value) (S : Ms) (x : V) (op : Int) (a b c : Nat) (la : a < 6) (lb : b < 6) (lc : c < 6) (w : World) (hM : Mb B w g tv S rv pv ov kv) (h6 : S.rg.length = 6) :
    Calls Tryz.prog 27 #[.pointer (some ⟨g, 0, none⟩), (⟨op, (a : Int), (b : Int), (c : Int), x⟩ : In).val] w fun e w' => DP B w g tv (S.sum ⟨op, (a : Int), (b : Int), (c : Int), x⟩ (· * ·)) e w' := by
  obtain ⟨r, cap, rfl, hBr, hr, hrg⟩ := at_cells hM h6
  have hgb := World.grownBy_alloc w (.cells #[.int .i64 op, .int .i64 (a : Int), .int .i64 (b : Int), .int .i64 (c : Int), .int .i64 x.k, .int .i64 x.n, .string x.s] 44) none
  have hb : Ib (w.alloc (.cells #[.int .i64 op, .int .i64 (a : Int), .int .i64 (b : Int), .int .i64 (c : Int), .int .i64 x.k, .int .i64 x.n, .string x.s] 44)) w.heap.size ⟨op, (a : Int), (b : Int), (c : Int), x⟩ := Ib.new w ⟨op, (a : Int), (b : Int), (c : Int), x⟩
  have hM1 := hM.keptN hgb
  have la' : (a : Int) < 6 := by omega
  have lb' : (b : Int) < 6 := by omega
  have lc' : (c : Int) < 6 := by omega
  obtain ⟨R, HR⟩ : ∃ R, Hid (S.sum ⟨op, (a : Int), (b : Int), (c : Int), x⟩ (· * ·) = R) := ⟨_, rfl⟩
  rw [HR.out]
  unfold In.val
  dsimp only
  go_enter Tryz.func27, Tryz.ntmps27
  go_upto_region 1 with fail
  have HG1 := hide (kp_n (B := B) hgb)
  generalize w.alloc (.cells #[.int .i64 op, .int .i64 (a : Int), .int .i64 (b : Int), .int .i64 (c : Int), .int .i64 x.k, .int .i64 x.n, .string x.s] 44) = W at *
  have hqg : g < w.heap.size := hM.lt
  generalize hq : w.heap.size = q at *
  have h := m_reckon B g tv (.slice (some ⟨r, 0, none⟩) 6 cap) pv ov kv S x op a b c la lb lc W hM1 h6 60 (· * ·) m_mulF (enters_of Tryz.func60 (by kernel_rfl) rfl)
  rw [HR.out] at h
  unfold In.val at h
  dsimp only at h
  obtain ⟨b0, b1, b2, b3, b4, b5, b6⟩ := hb.cs
  dsimp only at b0 b1 b2 b3 b4 b5 b6
  go_wp2_with (go_at_call 57; refine h.mono ?_; rintro e w2 hD; obtain ⟨bb, rfl, hR, hk⟩ := hD)
  go_ret
  exact ⟨bb, rfl, hR, HG1.out.then hk⟩


end Go.Proofs.YtpoahegccjgnjaaGreatDoor
