/- Contracts, over the turned program: Join. Conditions: those that each theorem states. -/
import Derived.Test.YtjmkfkmdafjgnaaNPh
import Derived.Test.YtjmkfkmdafjgnaaNPr
namespace Go.Proofs.Ytjmkfkmdafjgnaa
open Go Go.RowKit
set_option linter.unusedVariables false

set_option maxRecDepth 100000 in
set_option maxHeartbeats 2000000 in
theorem njoin_inner (x y : Value) (n m : Nd) (B : Nat) (k : ByteArray) (w : World) (hN : Nv B w x n) (hM : Nv B w y m) (hB : B ≤ w.heap.size) (hkm : k.size ≤ maxLen) (hl : n.leaf = false) (h1 : n.ks.length ≤ 1048576) (h2 : m.ks.length ≤ 1048576) (h3 : n.kd.length ≤ 1048577) (h4 : m.kd.length ≤ 1048577) :
    Calls Try.prog 24 #[x, y, .string k] w fun e w' => ∃ z, e = .returned z ∧ Nv w'.heap.size w' z (n.join m k) ∧ Kp none' w w' := by
  have HJ : Hid (n.join m k = ⟨false, [], [n.ks, [k], m.ks].flatten, [n.kd, m.kd].flatten⟩) := by show _ = _; unfold Nd.join; simp [hl]
  have HWK : Hid (∀ p ∈ [n.ks, [k], m.ks].flatten, p.size ≤ maxLen) := by
    intro p hp
    simp only [List.flatten_cons, List.flatten_nil, List.append_nil, List.mem_append, List.mem_singleton] at hp
    rcases hp with hp | hp | hp
    · exact hN.wf.k p hp
    · rw [hp]; exact hkm
    · exact hM.wf.k p hp
  have HWD : Hid (∀ z ∈ [n.kd, m.kd].flatten, -9223372036854775808 ≤ z ∧ z < 9223372036854775808) := by
    intro p hp
    simp only [List.flatten_cons, List.flatten_nil, List.append_nil, List.mem_append] at hp
    rcases hp with hp | hp
    · exact hN.wf.d p hp
    · exact hM.wf.d p hp
  rw [HJ.out]
  obtain ⟨⟨pv, kv, dv, rfl, hP, hS, hD⟩, _⟩ := hN
  obtain ⟨⟨pv', kv', dv', rfl, hP', hS', hD'⟩, _⟩ := hM
  obtain ⟨p1, c1, e1, _⟩ := id hP
  obtain ⟨p2, c2, e2, _⟩ := id hS
  obtain ⟨p3, c3, e3, _⟩ := id hD
  obtain ⟨p4, c4, e4, _⟩ := id hP'
  obtain ⟨p5, c5, e5, _⟩ := id hS'
  obtain ⟨p6, c6, e6, _⟩ := id hD'
  subst e1 e2 e3 e4 e5 e6
  rw [hl]
  obtain ⟨lp, Hlp⟩ : ∃ l, Hid (n.ps.length = l) := ⟨_, rfl⟩
  obtain ⟨lk, Hlk⟩ : ∃ l, Hid (n.ks.length = l) := ⟨_, rfl⟩
  obtain ⟨ld, Hld⟩ : ∃ l, Hid (n.kd.length = l) := ⟨_, rfl⟩
  obtain ⟨lp', Hlp'⟩ : ∃ l, Hid (m.ps.length = l) := ⟨_, rfl⟩
  obtain ⟨lk', Hlk'⟩ : ∃ l, Hid (m.ks.length = l) := ⟨_, rfl⟩
  obtain ⟨ld', Hld'⟩ : ∃ l, Hid (m.kd.length = l) := ⟨_, rfl⟩
  obtain ⟨lf', Hlf'⟩ : ∃ l, Hid (m.leaf = l) := ⟨_, rfl⟩
  have HLS : Hid ([n.ks, [k], m.ks].flatten.length ≤ 100000000) := by show _ ≤ _; simp; omega
  have HLD : Hid ([n.kd, m.kd].flatten.length ≤ 100000000) := by show _ ≤ _; simp; omega
  rw [Hlp.out, Hlk.out, Hld.out, Hlp'.out, Hlk'.out, Hld'.out, Hlf'.out]
  rw [Hlk.out] at hS
  rw [Hld.out] at hD
  rw [Hlk'.out] at hS'
  rw [Hld'.out] at hD'
  obtain ⟨o0, ho0⟩ : ∃ o, o = Obj.cells #[.bool false, .slice p1 lp c1, .slice p2 lk c2, .slice p3 ld c3] 26 := ⟨_, rfl⟩
  obtain ⟨o1, ho1⟩ : ∃ o, o = Obj.cells #[.bool lf', .slice p4 lp' c4, .slice p5 lk' c5, .slice p6 ld' c6] 26 := ⟨_, rfl⟩
  obtain ⟨o2, ho2⟩ : ∃ o, o = Obj.cells #[.bool false, .slice none 0 0, .slice none 0 0, .slice none 0 0] 26 := ⟨_, rfl⟩
  have hx0 : Nb (w.alloc o0) w.heap.size false (.slice p1 lp c1) (.slice p2 lk c2) (.slice p3 ld c3) := by rw [ho0]; exact Nb.new _ _ _ _ _
  have hy0 : Nb ((w.alloc o0).alloc o1) (w.heap.size + 1) lf' (.slice p4 lp' c4) (.slice p5 lk' c5) (.slice p6 ld' c6) := by
    have := Nb.new (w.alloc o0) lf' (.slice p4 lp' c4) (.slice p5 lk' c5) (.slice p6 ld' c6)
    rw [show (w.alloc o0).heap.size = w.heap.size + 1 by simp, ← ho1] at this
    exact this
  have n6 : Nb (((w.alloc o0).alloc o1).alloc o2) (w.heap.size + 1 + 1) false (.slice none 0 0) (.slice none 0 0) (.slice none 0 0) := by
    have := Nb.new ((w.alloc o0).alloc o1) false (.slice none 0 0) (.slice none 0 0) (.slice none 0 0)
    rw [show ((w.alloc o0).alloc o1).heap.size = w.heap.size + 1 + 1 by simp, ← ho2] at this
    exact this
  have hx1 := (hx0.kept (Kp.alloc none' _ o1) (fun h => h)).kept (Kp.alloc none' _ o2) (fun h => h)
  have hy1 := hy0.kept (Kp.alloc none' _ o2) (fun h => h)
  have hK0 : Kp none' w (((w.alloc o0).alloc o1).alloc o2) := ((Kp.alloc _ _ _).thenN (Kp.alloc _ _ _)).thenN (Kp.alloc _ _ _)
  subst ho0 ho1 ho2
  clear hP hP' h1 h2 h3 h4 hl
  go_enter Try.func24, Try.ntmps24
  go_upto_region 3 with fail
  generalize ((w.alloc (Obj.cells #[.bool false, .slice p1 lp c1, .slice p2 lk c2, .slice p3 ld c3] 26)).alloc (Obj.cells #[.bool lf', .slice p4 lp' c4, .slice p5 lk' c5, .slice p6 ld' c6] 26)).alloc (Obj.cells #[.bool false, .slice none 0 0, .slice none 0 0, .slice none 0 0] 26) = w1 at *
  have HLT : Hid (w.heap.size + 1 + 1 < w1.heap.size) := n6.lt
  have f0 : ∀ W : World, Kp (fun k => w.heap.size + 1 < k) w1 W → W.cell? ⟨w.heap.size, 2, none⟩ = some (.slice p2 lk c2) := fun W hk => (hx1.kept hk (fun h => by omega)).c2
  have f1 : ∀ W : World, Kp (fun k => w.heap.size + 1 < k) w1 W → W.cell? ⟨w.heap.size, 3, none⟩ = some (.slice p3 ld c3) := fun W hk => (hx1.kept hk (fun h => by omega)).c3
  have f2 : ∀ W : World, Kp (fun k => w.heap.size + 1 < k) w1 W → W.cell? ⟨w.heap.size + 1, 2, none⟩ = some (.slice p5 lk' c5) := fun W hk => (hy1.kept hk (fun h => by omega)).c2
  have f3 : ∀ W : World, Kp (fun k => w.heap.size + 1 < k) w1 W → W.cell? ⟨w.heap.size + 1, 3, none⟩ = some (.slice p6 ld' c6) := fun W hk => (hy1.kept hk (fun h => by omega)).c3
  have HCS : Hid (∀ (W : World) (g gk : Nat), Kp (fun k => w.heap.size + 1 < k) w1 W → Sl (fun x : Value => x) (g + 1) W (.slice (some ⟨g, 0, none⟩) 3 3) [.slice p2 lk c2, .slice (some ⟨gk, 0, none⟩) 1 1, .slice p5 lk' c5] → Sl Value.string (gk + 1) W (.slice (some ⟨gk, 0, none⟩) 1 1) [k] → Calls Try.prog 43 #[.slice (some ⟨g, 0, none⟩) 3 3] W fun e w' => ∃ a m' c, e = .returned (.slice a m' c) ∧ Ow Value.string 9 w' W.heap.size (.slice a m' c) ([n.ks, [k], m.ks].flatten) ∧ Kp none' W w') := by
    intro W g gk hk hV hK1
    refine (concatS _ _ [n.ks, [k], m.ks] (g + 1) (B + gk + 1) W hV rfl ?_ HLS.out).mono ?_
    · intro i h h'
      match i, h with
      | 0, _ => exact ((hS.keptN hK0).kept hk (fun k hk' h => by omega)).more (by omega)
      | 1, _ => exact hK1.more (by omega)
      | 2, _ => exact ((hS'.keptN hK0).kept hk (fun k hk' h => by omega)).more (by omega)
    · rintro e w' ⟨v', rfl, hO, hK⟩
      obtain ⟨a, m', c, rfl⟩ := ow_slice hO
      exact ⟨_, _, _, rfl, hO, hK⟩
  have HCI : Hid (∀ (W : World) (g : Nat), Kp (fun k => w.heap.size + 1 < k) w1 W → Sl (fun x : Value => x) (g + 1) W (.slice (some ⟨g, 0, none⟩) 2 2) [.slice p3 ld c3, .slice p6 ld' c6] → Calls Try.prog 44 #[.slice (some ⟨g, 0, none⟩) 2 2] W fun e w' => ∃ a m' c, e = .returned (.slice a m' c) ∧ Ow (Value.int .i64) 3 w' W.heap.size (.slice a m' c) ([n.kd, m.kd].flatten) ∧ Kp none' W w') := by
    intro W g hk hV
    refine (concatI _ _ [n.kd, m.kd] (g + 1) B W hV rfl ?_ HLD.out).mono ?_
    · intro i h h'
      match i, h with
      | 0, _ => exact (hD.keptN hK0).kept hk (fun k hk' h => by omega)
      | 1, _ => exact (hD'.keptN hK0).kept hk (fun k hk' h => by omega)
    · rintro e w' ⟨v', rfl, hO, hK⟩
      obtain ⟨a, m', c, rfl⟩ := ow_slice hO
      exact ⟨_, _, _, rfl, hO, hK⟩
  clear hS hS' hD hD' hx0 hx1 hy0 hy1
  replace n6 := n6.kept (Kp.drew none' w1) (fun h => h)
  refine wp_region_held_drew (S := fun W => Kp (fun k => w.heap.size + 1 < k) w1 W) (by kernel_rfl) (Kp.drew _ _) (fun hHeld => ?_)
  refine take_at (i := 0) (d := 15) (v := ?_) rfl rfl (by kernel_rfl) (by kernel_rfl) (by kernel_rfl) (fun _ _ _ h => h) (Or.inl ⟨by rfl, ?_⟩) (by assumption) ?_
  rotate_left
  · intro W hSW
    try dsimp only at hSW
    have g0 := f0 W hSW
    have g1 := f1 W hSW
    have g2 := f2 W hSW
    have g3 := f3 W hSW
    go_simp
    try with_reducible rfl
  try simp only [Act.put, List.setIfInBounds_toArray, List.set_cons_zero, List.set_cons_succ]
  refine take_at (i := 1) (d := 16) (v := ?_) rfl rfl (by kernel_rfl) (by kernel_rfl) (by kernel_rfl) (fun _ _ _ h => h) (Or.inl ⟨by rfl, ?_⟩) (by assumption) ?_
  rotate_left
  · intro W hSW
    try dsimp only at hSW
    have g0 := f0 W hSW
    have g1 := f1 W hSW
    have g2 := f2 W hSW
    have g3 := f3 W hSW
    go_simp
    try with_reducible rfl
  try simp only [Act.put, List.setIfInBounds_toArray, List.set_cons_zero, List.set_cons_succ]
  refine take_at (i := 2) (d := 17) (v := ?_) rfl rfl (by kernel_rfl) (by kernel_rfl) (by kernel_rfl) (fun _ _ _ h => h) (Or.inl ⟨by rfl, ?_⟩) (by assumption) ?_
  rotate_left
  · intro W hSW
    try dsimp only at hSW
    have g0 := f0 W hSW
    have g1 := f1 W hSW
    have g2 := f2 W hSW
    have g3 := f3 W hSW
    go_simp
    try with_reducible rfl
  try simp only [Act.put, List.setIfInBounds_toArray, List.set_cons_zero, List.set_cons_succ]
  refine take_at (i := 4) (d := 19) (v := ?_) rfl rfl (by kernel_rfl) (by kernel_rfl) (by kernel_rfl) (fun _ _ _ h => h) (Or.inl ⟨by rfl, ?_⟩) (by assumption) ?_
  rotate_left
  · intro W hSW
    try dsimp only at hSW
    have g0 := f0 W hSW
    have g1 := f1 W hSW
    have g2 := f2 W hSW
    have g3 := f3 W hSW
    go_simp
    try with_reducible rfl
  try simp only [Act.put, List.setIfInBounds_toArray, List.set_cons_zero, List.set_cons_succ]
  refine take_at (i := 5) (d := 20) (v := ?_) rfl rfl (by kernel_rfl) (by kernel_rfl) (by kernel_rfl) (fun _ _ _ h => h) (Or.inl ⟨by rfl, ?_⟩) (by assumption) ?_
  rotate_left
  · intro W hSW
    try dsimp only at hSW
    have g0 := f0 W hSW
    have g1 := f1 W hSW
    have g2 := f2 W hSW
    have g3 := f3 W hSW
    go_simp
    try with_reducible rfl
  try simp only [Act.put, List.setIfInBounds_toArray, List.set_cons_zero, List.set_cons_succ]
  refine take_at (i := 8) (d := 23) (v := ?_) rfl rfl (by kernel_rfl) (by kernel_rfl) (by kernel_rfl) (fun _ _ _ h => h) (Or.inl ⟨by rfl, ?_⟩) (by assumption) ?_
  rotate_left
  · intro W hSW
    try dsimp only at hSW
    have g0 := f0 W hSW
    have g1 := f1 W hSW
    have g2 := f2 W hSW
    have g3 := f3 W hSW
    go_simp
    try with_reducible rfl
  try simp only [Act.put, List.setIfInBounds_toArray, List.set_cons_zero, List.set_cons_succ]
  refine take_at (i := 9) (d := 24) (v := ?_) rfl rfl (by kernel_rfl) (by kernel_rfl) (by kernel_rfl) (fun _ _ _ h => h) (Or.inl ⟨by rfl, ?_⟩) (by assumption) ?_
  rotate_left
  · intro W hSW
    try dsimp only at hSW
    have g0 := f0 W hSW
    have g1 := f1 W hSW
    have g2 := f2 W hSW
    have g3 := f3 W hSW
    go_simp
    try with_reducible rfl
  try simp only [Act.put, List.setIfInBounds_toArray, List.set_cons_zero, List.set_cons_succ]
  refine take_at (i := 10) (d := 25) (v := ?_) rfl rfl (by kernel_rfl) (by kernel_rfl) (by kernel_rfl) (fun _ _ _ h => h) (Or.inl ⟨by rfl, ?_⟩) (by assumption) ?_
  rotate_left
  · intro W hSW
    try dsimp only at hSW
    have g0 := f0 W hSW
    have g1 := f1 W hSW
    have g2 := f2 W hSW
    have g3 := f3 W hSW
    go_simp
    try with_reducible rfl
  try simp only [Act.put, List.setIfInBounds_toArray, List.set_cons_zero, List.set_cons_succ]
  refine take_at (i := 11) (d := 26) (v := ?_) rfl rfl (by kernel_rfl) (by kernel_rfl) (by kernel_rfl) (fun _ _ _ h => h) (Or.inl ⟨by rfl, ?_⟩) (by assumption) ?_
  rotate_left
  · intro W hSW
    try dsimp only at hSW
    have g0 := f0 W hSW
    have g1 := f1 W hSW
    have g2 := f2 W hSW
    have g3 := f3 W hSW
    go_simp
    try with_reducible rfl
  try simp only [Act.put, List.setIfInBounds_toArray, List.set_cons_zero, List.set_cons_succ]
  refine wpAnyH_ready (rs := [3, 12]) (by kernel_rfl) (by simp) ?_
  refine AllReadyH.cons rfl (fun K hK => ?_) ?_
  · refine nstep_key1 (d := 18) (by rfl) (by rfl) (.tmp 17) (by rfl) (by rfl) ?_
    intro wx3 gK hK1S hk3 hg3
    replace n6 := n6.kept hk3 (fun h => h)
    refine hK.out _ _ (hHeld.thenN hk3) (fun hHeld => ?_)
    clear hK K
    try simp only [Act.put, List.setIfInBounds_toArray, List.set_cons_zero, List.set_cons_succ]
    refine wpAnyH_ready (rs := [6, 12]) (by kernel_rfl) (by simp) ?_
    refine AllReadyH.cons rfl (fun K hK => ?_) ?_
    · refine nstep_partsS (d := 21) (by rfl) (by rfl) (.tmp 16) (.tmp 18) (.tmp 20) (by rfl) (by rfl) (by rfl) (by rfl) ?_
      intro wx6 gS hVS hk6 hg6
      replace hK1S := hK1S.keptN hk6
      replace n6 := n6.kept hk6 (fun h => h)
      refine hK.out _ _ (hHeld.thenN hk6) (fun hHeld => ?_)
      clear hK K
      try simp only [Act.put, List.setIfInBounds_toArray, List.set_cons_zero, List.set_cons_succ]
      refine wpAnyH_ready (rs := [7, 12]) (by kernel_rfl) (by simp) ?_
      refine AllReadyH.cons rfl (fun K hK => ?_) ?_
      · go_simp
        go_wp2_with (go_at_call 43; refine (HCS.out _ gS gK hHeld hVS hK1S).mono ?_; rintro e wx7 ⟨bA, mA, dA, rfl, oK, hk7⟩)
        replace oK := oK.mem hHeld.size
        replace hK1S := hK1S.keptN hk7
        replace hVS := hVS.keptN hk7
        replace n6 := n6.kept hk7 (fun h => h)
        refine hK.out _ _ (hHeld.thenN hk7) (fun hHeld => ?_)
        clear hK K
        try simp only [Act.put, List.setIfInBounds_toArray, List.set_cons_zero, List.set_cons_succ]
        refine wpAnyH_ready (rs := [12]) (by kernel_rfl) (by simp) ?_
        refine AllReadyH.cons rfl (fun K hK => ?_) ?_
        · refine nstep_partsI (d := 27) (by rfl) (by rfl) (.tmp 24) (.tmp 26) (by rfl) (by rfl) (by rfl) ?_
          intro wx12 gI hVI hk12 hg12
          replace oK := oK.keptN hk12
          replace n6 := n6.kept hk12 (fun h => h)
          refine hK.out _ _ (hHeld.thenN hk12) (fun hHeld => ?_)
          clear hK K
          try simp only [Act.put, List.setIfInBounds_toArray, List.set_cons_zero, List.set_cons_succ]
          refine wpAnyH_ready (rs := [13]) (by kernel_rfl) (by simp) ?_
          refine AllReadyH.cons rfl (fun K hK => ?_) ?_
          · go_simp
            go_wp2_with (go_at_call 44; refine (HCI.out _ gI hHeld hVI).mono ?_; rintro e wx13 ⟨bB, mB, dB, rfl, oD, hk13⟩)
            replace oD := oD.mem hHeld.size
            replace hVI := hVI.keptN hk13
            replace oK := oK.keptN hk13
            replace n6 := n6.kept hk13 (fun h => h)
            refine hK.out _ _ (hHeld.thenN hk13) (fun hHeld => ?_)
            clear hK K
            try simp only [Act.put, List.setIfInBounds_toArray, List.set_cons_zero, List.set_cons_succ]
            refine take_at (i := 14) (d := 29) (v := ?_) rfl rfl (by kernel_rfl) (by kernel_rfl) (by kernel_rfl) (fun _ _ _ h => h) (Or.inl ⟨by rfl, ?_⟩) (by assumption) ?_
            rotate_left
            · intro W hSW
              try dsimp only at hSW
              go_simp
              try with_reducible rfl
            try simp only [Act.put, List.setIfInBounds_toArray, List.set_cons_zero, List.set_cons_succ]
            refine wpAnyH_ready (rs := [15]) (by kernel_rfl) (by simp) ?_
            refine AllReadyH.cons rfl (fun K hK => ?_) ?_
            · refine nstep_store_nb (by rfl) (by rfl) (.tmp 6) (.tmp 29) (by rfl) (w.heap.size + 1 + 1) (by rfl) (by rfl) n6 ?_
              clear n6
              intro wx15 n6 hk15
              replace oK := oK.kept hk15 (fun z hz e => by have := (oK.lt z hz).1; have := HLT.out; unfold only at e; omega)
              replace oD := oD.kept hk15 (fun z hz e => by have := (oD.lt z hz).1; have := HLT.out; unfold only at e; omega)
              refine hK.out _ _ (hHeld.trans hk15 (fun _ _ h => h) (fun k _ e => by unfold only at e; show _ < _; omega)) (fun hHeld => ?_)
              clear hK K
              try simp only [Act.put, List.setIfInBounds_toArray, List.set_cons_zero, List.set_cons_succ]
              refine wpAnyH_done (by kernel_rfl) ?_ _
              try go_wp2
              refine bodyPost_ret (results_nb1 rfl _ (w.heap.size + 1 + 1) _ rfl n6) rfl ?_
              exact ⟨_, rfl, Nv.ownI oK.sl oD.sl HWK.out HWD.out, hK0.trans hHeld (fun _ _ h => h) (fun k hk h => absurd hk (by have h' : w.heap.size + 1 < k := h; omega))⟩
            exact AllReadyH.nil
          exact AllReadyH.nil
        exact AllReadyH.nil
      refine AllReadyH.cons rfl (fun K hK => ?_) ?_
      · refine nstep_partsI (d := 27) (by rfl) (by rfl) (.tmp 24) (.tmp 26) (by rfl) (by rfl) (by rfl) ?_
        intro wx12 gI hVI hk12 hg12
        replace hK1S := hK1S.keptN hk12
        replace hVS := hVS.keptN hk12
        replace n6 := n6.kept hk12 (fun h => h)
        refine hK.out _ _ (hHeld.thenN hk12) (fun hHeld => ?_)
        clear hK K
        try simp only [Act.put, List.setIfInBounds_toArray, List.set_cons_zero, List.set_cons_succ]
        refine wpAnyH_ready (rs := [7]) (by kernel_rfl) (by simp) ?_
        refine AllReadyH.cons rfl (fun K hK => ?_) ?_
        · go_simp
          go_wp2_with (go_at_call 43; refine (HCS.out _ gS gK hHeld hVS hK1S).mono ?_; rintro e wx7 ⟨bA, mA, dA, rfl, oK, hk7⟩)
          replace oK := oK.mem hHeld.size
          replace hK1S := hK1S.keptN hk7
          replace hVS := hVS.keptN hk7
          replace hVI := hVI.keptN hk7
          replace n6 := n6.kept hk7 (fun h => h)
          refine hK.out _ _ (hHeld.thenN hk7) (fun hHeld => ?_)
          clear hK K
          try simp only [Act.put, List.setIfInBounds_toArray, List.set_cons_zero, List.set_cons_succ]
          refine wpAnyH_ready (rs := [13]) (by kernel_rfl) (by simp) ?_
          refine AllReadyH.cons rfl (fun K hK => ?_) ?_
          · go_simp
            go_wp2_with (go_at_call 44; refine (HCI.out _ gI hHeld hVI).mono ?_; rintro e wx13 ⟨bB, mB, dB, rfl, oD, hk13⟩)
            replace oD := oD.mem hHeld.size
            replace hVI := hVI.keptN hk13
            replace oK := oK.keptN hk13
            replace n6 := n6.kept hk13 (fun h => h)
            refine hK.out _ _ (hHeld.thenN hk13) (fun hHeld => ?_)
            clear hK K
            try simp only [Act.put, List.setIfInBounds_toArray, List.set_cons_zero, List.set_cons_succ]
            refine take_at (i := 14) (d := 29) (v := ?_) rfl rfl (by kernel_rfl) (by kernel_rfl) (by kernel_rfl) (fun _ _ _ h => h) (Or.inl ⟨by rfl, ?_⟩) (by assumption) ?_
            rotate_left
            · intro W hSW
              try dsimp only at hSW
              go_simp
              try with_reducible rfl
            try simp only [Act.put, List.setIfInBounds_toArray, List.set_cons_zero, List.set_cons_succ]
            refine wpAnyH_ready (rs := [15]) (by kernel_rfl) (by simp) ?_
            refine AllReadyH.cons rfl (fun K hK => ?_) ?_
            · refine nstep_store_nb (by rfl) (by rfl) (.tmp 6) (.tmp 29) (by rfl) (w.heap.size + 1 + 1) (by rfl) (by rfl) n6 ?_
              clear n6
              intro wx15 n6 hk15
              replace oK := oK.kept hk15 (fun z hz e => by have := (oK.lt z hz).1; have := HLT.out; unfold only at e; omega)
              replace oD := oD.kept hk15 (fun z hz e => by have := (oD.lt z hz).1; have := HLT.out; unfold only at e; omega)
              refine hK.out _ _ (hHeld.trans hk15 (fun _ _ h => h) (fun k _ e => by unfold only at e; show _ < _; omega)) (fun hHeld => ?_)
              clear hK K
              try simp only [Act.put, List.setIfInBounds_toArray, List.set_cons_zero, List.set_cons_succ]
              refine wpAnyH_done (by kernel_rfl) ?_ _
              try go_wp2
              refine bodyPost_ret (results_nb1 rfl _ (w.heap.size + 1 + 1) _ rfl n6) rfl ?_
              exact ⟨_, rfl, Nv.ownI oK.sl oD.sl HWK.out HWD.out, hK0.trans hHeld (fun _ _ h => h) (fun k hk h => absurd hk (by have h' : w.heap.size + 1 < k := h; omega))⟩
            exact AllReadyH.nil
          exact AllReadyH.nil
        exact AllReadyH.nil
      exact AllReadyH.nil
    refine AllReadyH.cons rfl (fun K hK => ?_) ?_
    · refine nstep_partsI (d := 27) (by rfl) (by rfl) (.tmp 24) (.tmp 26) (by rfl) (by rfl) (by rfl) ?_
      intro wx12 gI hVI hk12 hg12
      replace hK1S := hK1S.keptN hk12
      replace n6 := n6.kept hk12 (fun h => h)
      refine hK.out _ _ (hHeld.thenN hk12) (fun hHeld => ?_)
      clear hK K
      try simp only [Act.put, List.setIfInBounds_toArray, List.set_cons_zero, List.set_cons_succ]
      refine wpAnyH_ready (rs := [6]) (by kernel_rfl) (by simp) ?_
      refine AllReadyH.cons rfl (fun K hK => ?_) ?_
      · refine nstep_partsS (d := 21) (by rfl) (by rfl) (.tmp 16) (.tmp 18) (.tmp 20) (by rfl) (by rfl) (by rfl) (by rfl) ?_
        intro wx6 gS hVS hk6 hg6
        replace hK1S := hK1S.keptN hk6
        replace hVI := hVI.keptN hk6
        replace n6 := n6.kept hk6 (fun h => h)
        refine hK.out _ _ (hHeld.thenN hk6) (fun hHeld => ?_)
        clear hK K
        try simp only [Act.put, List.setIfInBounds_toArray, List.set_cons_zero, List.set_cons_succ]
        refine wpAnyH_ready (rs := [7]) (by kernel_rfl) (by simp) ?_
        refine AllReadyH.cons rfl (fun K hK => ?_) ?_
        · go_simp
          go_wp2_with (go_at_call 43; refine (HCS.out _ gS gK hHeld hVS hK1S).mono ?_; rintro e wx7 ⟨bA, mA, dA, rfl, oK, hk7⟩)
          replace oK := oK.mem hHeld.size
          replace hK1S := hK1S.keptN hk7
          replace hVS := hVS.keptN hk7
          replace hVI := hVI.keptN hk7
          replace n6 := n6.kept hk7 (fun h => h)
          refine hK.out _ _ (hHeld.thenN hk7) (fun hHeld => ?_)
          clear hK K
          try simp only [Act.put, List.setIfInBounds_toArray, List.set_cons_zero, List.set_cons_succ]
          refine wpAnyH_ready (rs := [13]) (by kernel_rfl) (by simp) ?_
          refine AllReadyH.cons rfl (fun K hK => ?_) ?_
          · go_simp
            go_wp2_with (go_at_call 44; refine (HCI.out _ gI hHeld hVI).mono ?_; rintro e wx13 ⟨bB, mB, dB, rfl, oD, hk13⟩)
            replace oD := oD.mem hHeld.size
            replace hVI := hVI.keptN hk13
            replace oK := oK.keptN hk13
            replace n6 := n6.kept hk13 (fun h => h)
            refine hK.out _ _ (hHeld.thenN hk13) (fun hHeld => ?_)
            clear hK K
            try simp only [Act.put, List.setIfInBounds_toArray, List.set_cons_zero, List.set_cons_succ]
            refine take_at (i := 14) (d := 29) (v := ?_) rfl rfl (by kernel_rfl) (by kernel_rfl) (by kernel_rfl) (fun _ _ _ h => h) (Or.inl ⟨by rfl, ?_⟩) (by assumption) ?_
            rotate_left
            · intro W hSW
              try dsimp only at hSW
              go_simp
              try with_reducible rfl
            try simp only [Act.put, List.setIfInBounds_toArray, List.set_cons_zero, List.set_cons_succ]
            refine wpAnyH_ready (rs := [15]) (by kernel_rfl) (by simp) ?_
            refine AllReadyH.cons rfl (fun K hK => ?_) ?_
            · refine nstep_store_nb (by rfl) (by rfl) (.tmp 6) (.tmp 29) (by rfl) (w.heap.size + 1 + 1) (by rfl) (by rfl) n6 ?_
              clear n6
              intro wx15 n6 hk15
              replace oK := oK.kept hk15 (fun z hz e => by have := (oK.lt z hz).1; have := HLT.out; unfold only at e; omega)
              replace oD := oD.kept hk15 (fun z hz e => by have := (oD.lt z hz).1; have := HLT.out; unfold only at e; omega)
              refine hK.out _ _ (hHeld.trans hk15 (fun _ _ h => h) (fun k _ e => by unfold only at e; show _ < _; omega)) (fun hHeld => ?_)
              clear hK K
              try simp only [Act.put, List.setIfInBounds_toArray, List.set_cons_zero, List.set_cons_succ]
              refine wpAnyH_done (by kernel_rfl) ?_ _
              try go_wp2
              refine bodyPost_ret (results_nb1 rfl _ (w.heap.size + 1 + 1) _ rfl n6) rfl ?_
              exact ⟨_, rfl, Nv.ownI oK.sl oD.sl HWK.out HWD.out, hK0.trans hHeld (fun _ _ h => h) (fun k hk h => absurd hk (by have h' : w.heap.size + 1 < k := h; omega))⟩
            exact AllReadyH.nil
          exact AllReadyH.nil
        exact AllReadyH.nil
      exact AllReadyH.nil
    exact AllReadyH.nil
  refine AllReadyH.cons rfl (fun K hK => ?_) ?_
  · refine nstep_partsI (d := 27) (by rfl) (by rfl) (.tmp 24) (.tmp 26) (by rfl) (by rfl) (by rfl) ?_
    intro wx12 gI hVI hk12 hg12
    replace n6 := n6.kept hk12 (fun h => h)
    refine hK.out _ _ (hHeld.thenN hk12) (fun hHeld => ?_)
    clear hK K
    try simp only [Act.put, List.setIfInBounds_toArray, List.set_cons_zero, List.set_cons_succ]
    refine wpAnyH_ready (rs := [3]) (by kernel_rfl) (by simp) ?_
    refine AllReadyH.cons rfl (fun K hK => ?_) ?_
    · refine nstep_key1 (d := 18) (by rfl) (by rfl) (.tmp 17) (by rfl) (by rfl) ?_
      intro wx3 gK hK1S hk3 hg3
      replace hVI := hVI.keptN hk3
      replace n6 := n6.kept hk3 (fun h => h)
      refine hK.out _ _ (hHeld.thenN hk3) (fun hHeld => ?_)
      clear hK K
      try simp only [Act.put, List.setIfInBounds_toArray, List.set_cons_zero, List.set_cons_succ]
      refine wpAnyH_ready (rs := [6]) (by kernel_rfl) (by simp) ?_
      refine AllReadyH.cons rfl (fun K hK => ?_) ?_
      · refine nstep_partsS (d := 21) (by rfl) (by rfl) (.tmp 16) (.tmp 18) (.tmp 20) (by rfl) (by rfl) (by rfl) (by rfl) ?_
        intro wx6 gS hVS hk6 hg6
        replace hK1S := hK1S.keptN hk6
        replace hVI := hVI.keptN hk6
        replace n6 := n6.kept hk6 (fun h => h)
        refine hK.out _ _ (hHeld.thenN hk6) (fun hHeld => ?_)
        clear hK K
        try simp only [Act.put, List.setIfInBounds_toArray, List.set_cons_zero, List.set_cons_succ]
        refine wpAnyH_ready (rs := [7]) (by kernel_rfl) (by simp) ?_
        refine AllReadyH.cons rfl (fun K hK => ?_) ?_
        · go_simp
          go_wp2_with (go_at_call 43; refine (HCS.out _ gS gK hHeld hVS hK1S).mono ?_; rintro e wx7 ⟨bA, mA, dA, rfl, oK, hk7⟩)
          replace oK := oK.mem hHeld.size
          replace hK1S := hK1S.keptN hk7
          replace hVS := hVS.keptN hk7
          replace hVI := hVI.keptN hk7
          replace n6 := n6.kept hk7 (fun h => h)
          refine hK.out _ _ (hHeld.thenN hk7) (fun hHeld => ?_)
          clear hK K
          try simp only [Act.put, List.setIfInBounds_toArray, List.set_cons_zero, List.set_cons_succ]
          refine wpAnyH_ready (rs := [13]) (by kernel_rfl) (by simp) ?_
          refine AllReadyH.cons rfl (fun K hK => ?_) ?_
          · go_simp
            go_wp2_with (go_at_call 44; refine (HCI.out _ gI hHeld hVI).mono ?_; rintro e wx13 ⟨bB, mB, dB, rfl, oD, hk13⟩)
            replace oD := oD.mem hHeld.size
            replace hVI := hVI.keptN hk13
            replace oK := oK.keptN hk13
            replace n6 := n6.kept hk13 (fun h => h)
            refine hK.out _ _ (hHeld.thenN hk13) (fun hHeld => ?_)
            clear hK K
            try simp only [Act.put, List.setIfInBounds_toArray, List.set_cons_zero, List.set_cons_succ]
            refine take_at (i := 14) (d := 29) (v := ?_) rfl rfl (by kernel_rfl) (by kernel_rfl) (by kernel_rfl) (fun _ _ _ h => h) (Or.inl ⟨by rfl, ?_⟩) (by assumption) ?_
            rotate_left
            · intro W hSW
              try dsimp only at hSW
              go_simp
              try with_reducible rfl
            try simp only [Act.put, List.setIfInBounds_toArray, List.set_cons_zero, List.set_cons_succ]
            refine wpAnyH_ready (rs := [15]) (by kernel_rfl) (by simp) ?_
            refine AllReadyH.cons rfl (fun K hK => ?_) ?_
            · refine nstep_store_nb (by rfl) (by rfl) (.tmp 6) (.tmp 29) (by rfl) (w.heap.size + 1 + 1) (by rfl) (by rfl) n6 ?_
              clear n6
              intro wx15 n6 hk15
              replace oK := oK.kept hk15 (fun z hz e => by have := (oK.lt z hz).1; have := HLT.out; unfold only at e; omega)
              replace oD := oD.kept hk15 (fun z hz e => by have := (oD.lt z hz).1; have := HLT.out; unfold only at e; omega)
              refine hK.out _ _ (hHeld.trans hk15 (fun _ _ h => h) (fun k _ e => by unfold only at e; show _ < _; omega)) (fun hHeld => ?_)
              clear hK K
              try simp only [Act.put, List.setIfInBounds_toArray, List.set_cons_zero, List.set_cons_succ]
              refine wpAnyH_done (by kernel_rfl) ?_ _
              try go_wp2
              refine bodyPost_ret (results_nb1 rfl _ (w.heap.size + 1 + 1) _ rfl n6) rfl ?_
              exact ⟨_, rfl, Nv.ownI oK.sl oD.sl HWK.out HWD.out, hK0.trans hHeld (fun _ _ h => h) (fun k hk h => absurd hk (by have h' : w.heap.size + 1 < k := h; omega))⟩
            exact AllReadyH.nil
          exact AllReadyH.nil
        exact AllReadyH.nil
      exact AllReadyH.nil
    exact AllReadyH.nil
  exact AllReadyH.nil

set_option maxRecDepth 100000 in
set_option maxHeartbeats 1000000 in
theorem njoin_leaf (x y : Value) (n m : Nd) (B : Nat) (k : ByteArray) (w : World) (hN : Nv B w x n) (hM : Nv B w y m) (hl : n.leaf = true) (h1 : n.ps.length ≤ 1048576) (h2 : m.ps.length ≤ 1048576) :
    Calls Try.prog 24 #[x, y, .string k] w fun e w' => ∃ z, e = .returned z ∧ Nv w'.heap.size w' z (n.join m k) ∧ Kp none' w w' := by
  have HJ : Hid (n.join m k = ⟨true, [n.ps, m.ps].flatten, [], []⟩) := by show _ = _; unfold Nd.join; simp [hl]
  have HWL : Hid (∀ p ∈ [n.ps, m.ps].flatten, p.k.size ≤ maxLen ∧ p.v.size ≤ maxLen) := by
    intro p hp
    simp only [List.flatten_cons, List.flatten_nil, List.append_nil, List.mem_append] at hp
    rcases hp with hp | hp
    · exact hN.wf.p p hp
    · exact hM.wf.p p hp
  rw [HJ.out]
  obtain ⟨⟨pv, kv, dv, rfl, hP, hS, hD⟩, _⟩ := hN
  obtain ⟨⟨pv', kv', dv', rfl, hP', hS', hD'⟩, _⟩ := hM
  obtain ⟨p1, c1, e1, _⟩ := id hP
  obtain ⟨p2, c2, e2, _⟩ := id hS
  obtain ⟨p3, c3, e3, _⟩ := id hD
  obtain ⟨p4, c4, e4, _⟩ := id hP'
  obtain ⟨p5, c5, e5, _⟩ := id hS'
  obtain ⟨p6, c6, e6, _⟩ := id hD'
  subst e1 e2 e3 e4 e5 e6
  rw [hl]
  obtain ⟨lp, Hlp⟩ : ∃ l, Hid (n.ps.length = l) := ⟨_, rfl⟩
  obtain ⟨lk, Hlk⟩ : ∃ l, Hid (n.ks.length = l) := ⟨_, rfl⟩
  obtain ⟨ld, Hld⟩ : ∃ l, Hid (n.kd.length = l) := ⟨_, rfl⟩
  obtain ⟨lp', Hlp'⟩ : ∃ l, Hid (m.ps.length = l) := ⟨_, rfl⟩
  obtain ⟨lk', Hlk'⟩ : ∃ l, Hid (m.ks.length = l) := ⟨_, rfl⟩
  obtain ⟨ld', Hld'⟩ : ∃ l, Hid (m.kd.length = l) := ⟨_, rfl⟩
  obtain ⟨lf', Hlf'⟩ : ∃ l, Hid (m.leaf = l) := ⟨_, rfl⟩
  have HLS : Hid ([n.ps, m.ps].flatten.length ≤ 100000000) := by show _ ≤ _; simp; omega
  rw [Hlp.out, Hlk.out, Hld.out, Hlp'.out, Hlk'.out, Hld'.out, Hlf'.out]
  rw [Hlp.out] at hP
  rw [Hlp'.out] at hP'
  obtain ⟨o0, ho0⟩ : ∃ o, o = Obj.cells #[.bool true, .slice p1 lp c1, .slice p2 lk c2, .slice p3 ld c3] 26 := ⟨_, rfl⟩
  obtain ⟨o1, ho1⟩ : ∃ o, o = Obj.cells #[.bool lf', .slice p4 lp' c4, .slice p5 lk' c5, .slice p6 ld' c6] 26 := ⟨_, rfl⟩
  obtain ⟨o2, ho2⟩ : ∃ o, o = Obj.cells #[.bool false, .slice none 0 0, .slice none 0 0, .slice none 0 0] 26 := ⟨_, rfl⟩
  have hx0 : Nb (w.alloc o0) w.heap.size true (.slice p1 lp c1) (.slice p2 lk c2) (.slice p3 ld c3) := by rw [ho0]; exact Nb.new _ _ _ _ _
  have hy0 : Nb ((w.alloc o0).alloc o1) (w.heap.size + 1) lf' (.slice p4 lp' c4) (.slice p5 lk' c5) (.slice p6 ld' c6) := by
    have := Nb.new (w.alloc o0) lf' (.slice p4 lp' c4) (.slice p5 lk' c5) (.slice p6 ld' c6)
    rw [show (w.alloc o0).heap.size = w.heap.size + 1 by simp, ← ho1] at this
    exact this
  have n6 : Nb (((w.alloc o0).alloc o1).alloc o2) (w.heap.size + 1 + 1) false (.slice none 0 0) (.slice none 0 0) (.slice none 0 0) := by
    have := Nb.new ((w.alloc o0).alloc o1) false (.slice none 0 0) (.slice none 0 0) (.slice none 0 0)
    rw [show ((w.alloc o0).alloc o1).heap.size = w.heap.size + 1 + 1 by simp, ← ho2] at this
    exact this
  have hx1 := (hx0.kept (Kp.alloc none' _ o1) (fun h => h)).kept (Kp.alloc none' _ o2) (fun h => h)
  have hy1 := hy0.kept (Kp.alloc none' _ o2) (fun h => h)
  have hK0 : Kp none' w (((w.alloc o0).alloc o1).alloc o2) := ((Kp.alloc _ _ _).thenN (Kp.alloc _ _ _)).thenN (Kp.alloc _ _ _)
  subst ho0 ho1 ho2
  clear hS hS' hD hD' h1 h2 hl
  obtain ⟨L, HL⟩ : ∃ L, Hid ([n.ps, m.ps].flatten = L) := ⟨[n.ps, m.ps].flatten, hide rfl⟩
  rw [HL.out] at HWL ⊢
  go_enter Try.func24, Try.ntmps24
  go_upto_region 2 with fail
  generalize ((w.alloc (Obj.cells #[.bool true, .slice p1 lp c1, .slice p2 lk c2, .slice p3 ld c3] 26)).alloc (Obj.cells #[.bool lf', .slice p4 lp' c4, .slice p5 lk' c5, .slice p6 ld' c6] 26)).alloc (Obj.cells #[.bool false, .slice none 0 0, .slice none 0 0, .slice none 0 0] 26) = w1 at *
  have HLT : Hid (w.heap.size + 1 + 1 < w1.heap.size) := n6.lt
  have c1' := hx1.c1
  have c2' := hy1.c1
  have hKp : Kp none' w1 (w1.alloc (.cells #[.slice p1 lp c1, .slice p4 lp' c4] 22)) := Kp.alloc _ _ _
  have HLF : Hid (Calls Try.prog 38 #[.slice (some ⟨w1.heap.size, 0, none⟩) 2 2] (w1.alloc (.cells #[.slice p1 lp c1, .slice p4 lp' c4] 22)) fun e w' => ∃ a m c, e = .returned (.agg #[.bool true, .slice a m c, .slice none 0 0, .slice none 0 0]) ∧ OwP w' w1.heap.size (.slice a m c) L ∧ Kp none' w1 w' ∧ Nb w' (w.heap.size + 1 + 1) false (.slice none 0 0) (.slice none 0 0) (.slice none 0 0)) := by
    refine (leaf_any _ [.slice p1 lp c1, .slice p4 lp' c4] [n.ps, m.ps] (w1.heap.size + 1) B _ (parts_new w1 [.slice p1 lp c1, .slice p4 lp' c4] 22 w1.heap.size 2 rfl rfl (by omega)) rfl ?_ HLS.out).mono ?_
    · intro i h h'
      match i, h with
      | 0, _ => exact hP.keptN (hK0.thenN hKp)
      | 1, _ => exact hP'.keptN (hK0.thenN hKp)
    · rintro e w' ⟨b, e', rfl, hO, hK⟩
      rw [HL.out] at hO ⊢
      exact ⟨_, _, _, rfl, hO.mono (by simp), hKp.thenN hK, n6.kept (hKp.thenN hK) (fun h => h)⟩
  clear hP hP' hx0 hx1 hy0 hy1 n6
  go_wp2_with (first
    | (go_at_call 38; refine HLF.out.mono ?_; rintro e w2 ⟨a6, m6, c6, rfl, hO2, hK2, n6⟩)
    | (refine nwpList_store_nb rfl rfl (.tmp 6) (.tmp 14) rfl (w.heap.size + 1 + 1) rfl rfl n6 ?_; clear n6; intro w3 n6 hK3)
    | fail)
  refine bodyPost_ret (results_nb1 rfl _ (w.heap.size + 1 + 1) _ rfl n6) rfl ?_
  exact ⟨_, rfl, Nv.own (hO2.kept hK3 (fun z hz e => by have := (hO2.lt z hz).1; have := HLT.out; unfold only at e; omega)).prs HWL.out, kp_far (hK0.thenN hK2) (by omega) hK3⟩
theorem join_any (x y : Value) (n m : Nd) (B : Nat) (k : ByteArray) (w : World) (hN : Nv B w x n) (hM : Nv B w y m) (hB : B ≤ w.heap.size) (hkm : k.size ≤ maxLen) (h0 : n.ps.length ≤ 1048576) (h0' : m.ps.length ≤ 1048576) (h1 : n.ks.length ≤ 1048576) (h2 : m.ks.length ≤ 1048576) (h3 : n.kd.length ≤ 1048577) (h4 : m.kd.length ≤ 1048577) :
    Calls Try.prog 24 #[x, y, .string k] w fun e w' => ∃ z, e = .returned z ∧ Nv w'.heap.size w' z (n.join m k) ∧ Kp none' w w' := by
  cases h : n.leaf with
  | true => exact njoin_leaf x y n m B k w hN hM h h0 h0'
  | false => exact njoin_inner x y n m B k w hN hM hB hkm h h1 h2 h3 h4

end Go.Proofs.Ytjmkfkmdafjgnaa
