/- Contracts, over the turned program: a node in memory of its own. Conditions: those that each theorem states. -/
import Derived.Test.YtjmkfkmdafjgnaaNPn
namespace Go.Proofs.Ytjmkfkmdafjgnaa
open Go Go.RowKit
set_option linter.unusedVariables false

set_option maxRecDepth 100000 in
set_option maxHeartbeats 2000000 in
theorem copied_any (x : Value) (n : Nd) (B : Nat) (w : World) (hN : Nv B w x n) (hB : B ≤ w.heap.size) (hp : n.ps.length ≤ 100000000) (hk : n.ks.length ≤ 100000000) (hd : n.kd.length ≤ 100000000) :
    Calls Try.prog 42 #[x] w fun e w' => ∃ a m c a2 m2 c2 a3 m3 c3, e = .returned (.agg #[.bool n.leaf, .slice a m c, .slice a2 m2 c2, .slice a3 m3 c3]) ∧ OwP w' w.heap.size (.slice a m c) n.ps ∧ Ow Value.string 9 w' w.heap.size (.slice a2 m2 c2) n.ks ∧ Ow (Value.int .i64) 3 w' w.heap.size (.slice a3 m3 c3) n.kd ∧ Kp none' w w' := by
  obtain ⟨⟨pv, kv, dv, rfl, hP, hS, hD⟩, hwf⟩ := hN
  obtain ⟨a1, c1, e1, _⟩ := id hP
  obtain ⟨a2, c2, e2, _⟩ := id hS
  obtain ⟨a3, c3, e3, _⟩ := id hD
  subst e1 e2 e3
  have nb := (Nb.new w n.leaf (.slice a1 n.ps.length c1) (.slice a2 n.ks.length c2) (.slice a3 n.kd.length c3)).kept (Kp.alloc none' _ (.cells #[.bool false, .slice none 0 0, .slice none 0 0, .slice none 0 0] 26)) (fun h => h)
  have n2 := Nb.new (w.alloc (.cells #[.bool n.leaf, .slice a1 n.ps.length c1, .slice a2 n.ks.length c2, .slice a3 n.kd.length c3] 26)) false (.slice none 0 0) (.slice none 0 0) (.slice none 0 0)
  rw [show (w.alloc (.cells #[.bool n.leaf, .slice a1 n.ps.length c1, .slice a2 n.ks.length c2, .slice a3 n.kd.length c3] 26)).heap.size = w.heap.size + 1 by simp] at n2
  have hK0 : Kp none' w ((w.alloc (.cells #[.bool n.leaf, .slice a1 n.ps.length c1, .slice a2 n.ks.length c2, .slice a3 n.kd.length c3] 26)).alloc (.cells #[.bool false, .slice none 0 0, .slice none 0 0, .slice none 0 0] 26)) := (Kp.alloc _ _ _).thenN (Kp.alloc _ _ _)
  have HLT : Hid (w.heap.size + 1 < ((w.alloc (.cells #[.bool n.leaf, .slice a1 n.ps.length c1, .slice a2 n.ks.length c2, .slice a3 n.kd.length c3] 26)).alloc (.cells #[.bool false, .slice none 0 0, .slice none 0 0, .slice none 0 0] 26)).heap.size) := n2.lt
  obtain ⟨lp, Hlp⟩ : ∃ l, Hid (n.ps.length = l) := ⟨_, rfl⟩
  obtain ⟨lk, Hlk⟩ : ∃ l, Hid (n.ks.length = l) := ⟨_, rfl⟩
  obtain ⟨ld, Hld⟩ : ∃ l, Hid (n.kd.length = l) := ⟨_, rfl⟩
  obtain ⟨lf, Hlf⟩ : ∃ l, Hid (n.leaf = l) := ⟨_, rfl⟩
  rw [Hlp.out, Hlk.out, Hld.out, Hlf.out] at nb n2 hK0 HLT ⊢
  rw [Hlp.out] at hP
  rw [Hlk.out] at hS
  rw [Hld.out] at hD
  go_enter Try.func42, Try.ntmps42
  go_upto_region 1 with fail
  generalize (w.alloc (.cells #[.bool lf, .slice a1 lp c1, .slice a2 lk c2, .slice a3 ld c3] 26)).alloc (.cells #[.bool false, .slice none 0 0, .slice none 0 0, .slice none 0 0] 26) = w1 at *
  have f0 : ∀ W : World, Kp (fun k => w.heap.size < k) w1 W → W.cell? ⟨w.heap.size, 0, none⟩ = some (.bool lf) := fun W hk => (nb.kept hk (fun h => by omega)).c0
  have f1 : ∀ W : World, Kp (fun k => w.heap.size < k) w1 W → W.cell? ⟨w.heap.size, 1, none⟩ = some (.slice a1 lp c1) := fun W hk => (nb.kept hk (fun h => by omega)).c1
  have f2 : ∀ W : World, Kp (fun k => w.heap.size < k) w1 W → W.cell? ⟨w.heap.size, 2, none⟩ = some (.slice a2 lk c2) := fun W hk => (nb.kept hk (fun h => by omega)).c2
  have f3 : ∀ W : World, Kp (fun k => w.heap.size < k) w1 W → W.cell? ⟨w.heap.size, 3, none⟩ = some (.slice a3 ld c3) := fun W hk => (nb.kept hk (fun h => by omega)).c3
  have HA : Hid (∀ W : World, Kp (fun k => w.heap.size < k) w1 W → Calls Try.prog 61 #[.slice a1 lp c1] W fun e w' => ∃ a m c, e = .returned (.slice a m c) ∧ OwP w' W.heap.size (.slice a m c) n.ps ∧ Kp none' W w') := by
    intro W hk'
    refine (cloneOP _ n.ps B W ((hP.keptN hK0).kept hk' (fun k hk h => by omega)) hp).mono ?_
    rintro e w' ⟨v', rfl, hO, hK⟩
    obtain ⟨a, m, c, rfl⟩ := owp_slice hO
    exact ⟨a, m, c, rfl, hO, hK⟩
  have HB : Hid (∀ W : World, Kp (fun k => w.heap.size < k) w1 W → Calls Try.prog 62 #[.slice a2 lk c2] W fun e w' => ∃ a m c, e = .returned (.slice a m c) ∧ Ow Value.string 9 w' W.heap.size (.slice a m c) n.ks ∧ Kp none' W w') := by
    intro W hk'
    refine (cloneOS _ n.ks B W ((hS.keptN hK0).kept hk' (fun k hk h => by omega)) hk).mono ?_
    rintro e w' ⟨v', rfl, hO, hK⟩
    obtain ⟨a, m, c, rfl⟩ := ow_slice hO
    exact ⟨a, m, c, rfl, hO, hK⟩
  have HC : Hid (∀ W : World, Kp (fun k => w.heap.size < k) w1 W → Calls Try.prog 63 #[.slice a3 ld c3] W fun e w' => ∃ a m c, e = .returned (.slice a m c) ∧ Ow (Value.int .i64) 3 w' W.heap.size (.slice a m c) n.kd ∧ Kp none' W w') := by
    intro W hk'
    refine (cloneOI _ n.kd B W ((hD.keptN hK0).kept hk' (fun k hk h => by omega)) hd).mono ?_
    rintro e w' ⟨v', rfl, hO, hK⟩
    obtain ⟨a, m, c, rfl⟩ := ow_slice hO
    exact ⟨a, m, c, rfl, hO, hK⟩
  clear hP hS hD hwf hp hk hd nb
  replace n2 := n2.kept (Kp.drew none' w1) (fun h => h)
  refine wp_region_held_drew (S := fun W => Kp (fun k => w.heap.size < k) w1 W) (by kernel_rfl) (Kp.drew _ _) (fun hHeld => ?_)
  refine take_at (i := 0) (d := 3) (v := ?_) rfl rfl (by kernel_rfl) (by kernel_rfl) (by kernel_rfl) (fun _ _ _ h => h) (Or.inl ⟨by rfl, ?_⟩) (by assumption) ?_
  rotate_left
  · intro W hSW
    try dsimp only at hSW
    have g0 := f0 W hSW
    have g1 := f1 W hSW
    have g2 := f2 W hSW
    have g3 := f3 W hSW
    go_simp
    try with_reducible rfl
  try simp only [Act.put, List.setIfInBounds_toArray, List.set_cons_zero, List.set_cons_succ]
  refine take_at (i := 1) (d := 4) (v := ?_) rfl rfl (by kernel_rfl) (by kernel_rfl) (by kernel_rfl) (fun _ _ _ h => h) (Or.inl ⟨by rfl, ?_⟩) (by assumption) ?_
  rotate_left
  · intro W hSW
    try dsimp only at hSW
    have g0 := f0 W hSW
    have g1 := f1 W hSW
    have g2 := f2 W hSW
    have g3 := f3 W hSW
    go_simp
    try with_reducible rfl
  try simp only [Act.put, List.setIfInBounds_toArray, List.set_cons_zero, List.set_cons_succ]
  refine take_at (i := 2) (d := 5) (v := ?_) rfl rfl (by kernel_rfl) (by kernel_rfl) (by kernel_rfl) (fun _ _ _ h => h) (Or.inl ⟨by rfl, ?_⟩) (by assumption) ?_
  rotate_left
  · intro W hSW
    try dsimp only at hSW
    have g0 := f0 W hSW
    have g1 := f1 W hSW
    have g2 := f2 W hSW
    have g3 := f3 W hSW
    go_simp
    try with_reducible rfl
  try simp only [Act.put, List.setIfInBounds_toArray, List.set_cons_zero, List.set_cons_succ]
  refine take_at (i := 3) (d := 6) (v := ?_) rfl rfl (by kernel_rfl) (by kernel_rfl) (by kernel_rfl) (fun _ _ _ h => h) (Or.inl ⟨by rfl, ?_⟩) (by assumption) ?_
  rotate_left
  · intro W hSW
    try dsimp only at hSW
    have g0 := f0 W hSW
    have g1 := f1 W hSW
    have g2 := f2 W hSW
    have g3 := f3 W hSW
    go_simp
    try with_reducible rfl
  try simp only [Act.put, List.setIfInBounds_toArray, List.set_cons_zero, List.set_cons_succ]
  refine take_at (i := 5) (d := 8) (v := ?_) rfl rfl (by kernel_rfl) (by kernel_rfl) (by kernel_rfl) (fun _ _ _ h => h) (Or.inl ⟨by rfl, ?_⟩) (by assumption) ?_
  rotate_left
  · intro W hSW
    try dsimp only at hSW
    have g0 := f0 W hSW
    have g1 := f1 W hSW
    have g2 := f2 W hSW
    have g3 := f3 W hSW
    go_simp
    try with_reducible rfl
  try simp only [Act.put, List.setIfInBounds_toArray, List.set_cons_zero, List.set_cons_succ]
  refine take_at (i := 6) (d := 9) (v := ?_) rfl rfl (by kernel_rfl) (by kernel_rfl) (by kernel_rfl) (fun _ _ _ h => h) (Or.inl ⟨by rfl, ?_⟩) (by assumption) ?_
  rotate_left
  · intro W hSW
    try dsimp only at hSW
    have g0 := f0 W hSW
    have g1 := f1 W hSW
    have g2 := f2 W hSW
    have g3 := f3 W hSW
    go_simp
    try with_reducible rfl
  try simp only [Act.put, List.setIfInBounds_toArray, List.set_cons_zero, List.set_cons_succ]
  refine take_at (i := 8) (d := 11) (v := ?_) rfl rfl (by kernel_rfl) (by kernel_rfl) (by kernel_rfl) (fun _ _ _ h => h) (Or.inl ⟨by rfl, ?_⟩) (by assumption) ?_
  rotate_left
  · intro W hSW
    try dsimp only at hSW
    have g0 := f0 W hSW
    have g1 := f1 W hSW
    have g2 := f2 W hSW
    have g3 := f3 W hSW
    go_simp
    try with_reducible rfl
  try simp only [Act.put, List.setIfInBounds_toArray, List.set_cons_zero, List.set_cons_succ]
  refine take_at (i := 9) (d := 12) (v := ?_) rfl rfl (by kernel_rfl) (by kernel_rfl) (by kernel_rfl) (fun _ _ _ h => h) (Or.inl ⟨by rfl, ?_⟩) (by assumption) ?_
  rotate_left
  · intro W hSW
    try dsimp only at hSW
    have g0 := f0 W hSW
    have g1 := f1 W hSW
    have g2 := f2 W hSW
    have g3 := f3 W hSW
    go_simp
    try with_reducible rfl
  try simp only [Act.put, List.setIfInBounds_toArray, List.set_cons_zero, List.set_cons_succ]
  refine wpAnyH_ready (rs := [4]) (by kernel_rfl) (by simp) ?_
  refine AllReadyH.cons rfl (fun K hK => ?_) ?_
  · go_simp
    go_wp2_with (go_at_call 61; refine (HA.out _ hHeld).mono ?_; rintro e wx4 ⟨bA, mA, dA, rfl, oP, hk4⟩)
    replace oP := oP.mono hHeld.size
    replace n2 := n2.kept hk4 (fun h => h)
    refine hK.out _ _ (hHeld.thenN hk4) (fun hHeld => ?_)
    clear hK K
    try simp only [Act.put, List.setIfInBounds_toArray, List.set_cons_zero, List.set_cons_succ]
    refine wpAnyH_ready (rs := [7]) (by kernel_rfl) (by simp) ?_
    refine AllReadyH.cons rfl (fun K hK => ?_) ?_
    · go_simp
      go_wp2_with (go_at_call 62; refine (HB.out _ hHeld).mono ?_; rintro e wx7 ⟨bB, mB, dB, rfl, oK, hk7⟩)
      replace oK := oK.mem hHeld.size
      replace oP := oP.keptN hk7
      replace n2 := n2.kept hk7 (fun h => h)
      refine hK.out _ _ (hHeld.thenN hk7) (fun hHeld => ?_)
      clear hK K
      try simp only [Act.put, List.setIfInBounds_toArray, List.set_cons_zero, List.set_cons_succ]
      refine wpAnyH_ready (rs := [10]) (by kernel_rfl) (by simp) ?_
      refine AllReadyH.cons rfl (fun K hK => ?_) ?_
      · go_simp
        go_wp2_with (go_at_call 63; refine (HC.out _ hHeld).mono ?_; rintro e wx10 ⟨bC, mC, dC, rfl, oD, hk10⟩)
        replace oD := oD.mem hHeld.size
        replace oP := oP.keptN hk10
        replace oK := oK.keptN hk10
        replace n2 := n2.kept hk10 (fun h => h)
        refine hK.out _ _ (hHeld.thenN hk10) (fun hHeld => ?_)
        clear hK K
        try simp only [Act.put, List.setIfInBounds_toArray, List.set_cons_zero, List.set_cons_succ]
        refine take_at (i := 11) (d := 14) (v := ?_) rfl rfl (by kernel_rfl) (by kernel_rfl) (by kernel_rfl) (fun _ _ _ h => h) (Or.inl ⟨by rfl, ?_⟩) (by assumption) ?_
        rotate_left
        · intro W hSW
          try dsimp only at hSW
          go_simp
          try with_reducible rfl
        try simp only [Act.put, List.setIfInBounds_toArray, List.set_cons_zero, List.set_cons_succ]
        refine wpAnyH_ready (rs := [12]) (by kernel_rfl) (by simp) ?_
        refine AllReadyH.cons rfl (fun K hK => ?_) ?_
        · refine nstep_store_nb (by rfl) (by rfl) (.tmp 2) (.tmp 14) (by rfl) (w.heap.size + 1) (by rfl) (by rfl) n2 ?_
          clear n2
          intro wx12 n2 hk12
          replace oP := oP.kept hk12 (fun z hz e => by have := (oP.lt z hz).1; have := HLT.out; unfold only at e; omega)
          replace oK := oK.kept hk12 (fun z hz e => by have := (oK.lt z hz).1; have := HLT.out; unfold only at e; omega)
          replace oD := oD.kept hk12 (fun z hz e => by have := (oD.lt z hz).1; have := HLT.out; unfold only at e; omega)
          refine hK.out _ _ (hHeld.trans hk12 (fun _ _ h => h) (fun k _ e => by unfold only at e; show _ < _; omega)) (fun hHeld => ?_)
          clear hK K
          try simp only [Act.put, List.setIfInBounds_toArray, List.set_cons_zero, List.set_cons_succ]
          refine wpAnyH_done (by kernel_rfl) ?_ _
          try go_wp2
          refine bodyPost_ret (results_nb1 rfl _ (w.heap.size + 1) _ rfl n2) rfl ?_
          exact ⟨_, _, _, _, _, _, _, _, _, rfl, oP.mono (by have := HLT.out; omega), oK.mem (by have := HLT.out; omega), oD.mem (by have := HLT.out; omega), hK0.trans hHeld (fun _ _ h => h) (fun k hk h => absurd hk (by have h' : w.heap.size < k := h; omega))⟩
        exact AllReadyH.nil
      exact AllReadyH.nil
    exact AllReadyH.nil
  exact AllReadyH.nil

end Go.Proofs.Ytjmkfkmdafjgnaa
