/- Contracts, over the turned program: what the document's Join answers. Conditions: those that each theorem states. -/
import Derived.Test.YtjmkfkmdafjgnaaNRefJ
import Derived.Test.YtjmkfkmdafjgnaaNPn
namespace Go.Proofs.Ytjmkfkmdafjgnaa
open Go Go.RowKit
set_option linter.unusedVariables false

theorem nstep_app_d {P : Program} {w : World} {ops : Array Oper} {o : Oper} {a : Act} {K : Act → World → Prop} {Q : Exit → Act → World → Prop} {E : Prop} {d : Nat} (hgd : o.guard = none) (hd : o.dst = some d) (s x : Operand) (t tx : TypeId)
    (ho : o.op = .call { callee := .builtin .append, args := #[s, x], argTypes := #[t, tx] }) (v xv : Value) (hs : a.eval s = v) (hx : a.eval x = xv) {v' : Value} {w' : World}
    (hr : (Builtin.append_ #[t, tx] o.type #[v, xv]).run P w = .ok v' w') (h : K (a.put (some d) v') w') : if Region.wanted o (yielded ops a.tmps) = true then Oper.wp P o a w K Q else E :=
  nstep_app_at hgd s x t tx ho v xv hs hx hr (by rw [hd]; exact h)
set_option maxRecDepth 100000 in
set_option maxHeartbeats 800000 in
theorem rjoin9_inner (x y : Value) (n m : Nd) (B : Nat) (k : ByteArray) (w : World) (hN : Nv B w x n) (hM : Nv B w y m) (hB : B ≤ w.heap.size) (hkm : k.size ≤ maxLen) (hl : n.leaf = false) (h1 : n.ks.length ≤ 1048576) (h2 : m.ks.length ≤ 1048576) (h3 : n.kd.length ≤ 1048577) (h4 : m.kd.length ≤ 1048577) :
    Calls Try.prog 25 #[x, y, .string k] w fun e w' => ∃ z, e = .returned z ∧ Nv w'.heap.size w' z (n.join m k) ∧ Kp none' w w' := by
  have HJ : Hid (n.join m k = ⟨false, [], n.ks ++ [k] ++ m.ks, n.kd ++ m.kd⟩) := by show _ = _; unfold Nd.join; simp [hl]
  have HWK : Hid (∀ p ∈ n.ks ++ [k] ++ m.ks, p.size ≤ maxLen) := by
    intro p hp
    simp only [List.mem_append, List.mem_singleton] at hp
    rcases hp with (hp | hp) | hp
    · exact hN.wf.k p hp
    · rw [hp]; exact hkm
    · exact hM.wf.k p hp
  have HWD : Hid (∀ z ∈ n.kd ++ m.kd, -9223372036854775808 ≤ z ∧ z < 9223372036854775808) := by
    intro p hp
    simp only [List.mem_append] at hp
    rcases hp with hp | hp
    · exact hN.wf.d p hp
    · exact hM.wf.d p hp
  rw [HJ.out]
  obtain ⟨⟨pv, kv, dv, rfl, hP, hS, hD⟩, _⟩ := hN
  obtain ⟨⟨pv', kv', dv', rfl, hP', hS', hD'⟩, _⟩ := hM
  obtain ⟨p1, c1, e1, _⟩ := id hP
  obtain ⟨p2, c2, e2, _⟩ := id hS
  obtain ⟨p3, c3, e3, _⟩ := id hD
  obtain ⟨p4, c4, e4, _⟩ := id hP'
  obtain ⟨p5, c5, e5, _⟩ := id hS'
  obtain ⟨p6, c6, e6, _⟩ := id hD'
  subst e1 e2 e3 e4 e5 e6
  rw [hl]
  obtain ⟨lp, Hlp⟩ : ∃ l, Hid (n.ps.length = l) := ⟨_, rfl⟩
  obtain ⟨lk, Hlk⟩ : ∃ l, Hid (n.ks.length = l) := ⟨_, rfl⟩
  obtain ⟨ld, Hld⟩ : ∃ l, Hid (n.kd.length = l) := ⟨_, rfl⟩
  obtain ⟨lp', Hlp'⟩ : ∃ l, Hid (m.ps.length = l) := ⟨_, rfl⟩
  obtain ⟨lk', Hlk'⟩ : ∃ l, Hid (m.ks.length = l) := ⟨_, rfl⟩
  obtain ⟨ld', Hld'⟩ : ∃ l, Hid (m.kd.length = l) := ⟨_, rfl⟩
  obtain ⟨lf', Hlf'⟩ : ∃ l, Hid (m.leaf = l) := ⟨_, rfl⟩
  have HLN : Hid (n.ks.length ≤ 1048576 ∧ m.ks.length ≤ 1048576 ∧ n.kd.length ≤ 1048577 ∧ m.kd.length ≤ 1048577) := ⟨h1, h2, h3, h4⟩
  rw [Hlp.out, Hlk.out, Hld.out, Hlp'.out, Hlk'.out, Hld'.out, Hlf'.out]
  rw [Hlk.out] at hS
  rw [Hld.out] at hD
  rw [Hlk'.out] at hS'
  rw [Hld'.out] at hD'
  obtain ⟨o0, ho0⟩ : ∃ o, o = Obj.cells #[.bool false, .slice p1 lp c1, .slice p2 lk c2, .slice p3 ld c3] 26 := ⟨_, rfl⟩
  obtain ⟨o1, ho1⟩ : ∃ o, o = Obj.cells #[.bool lf', .slice p4 lp' c4, .slice p5 lk' c5, .slice p6 ld' c6] 26 := ⟨_, rfl⟩
  obtain ⟨o2, ho2⟩ : ∃ o, o = Obj.cells #[.bool false, .slice none 0 0, .slice none 0 0, .slice none 0 0] 26 := ⟨_, rfl⟩
  have hx0 : Nb (w.alloc o0) w.heap.size false (.slice p1 lp c1) (.slice p2 lk c2) (.slice p3 ld c3) := by rw [ho0]; exact Nb.new _ _ _ _ _
  have hy0 : Nb ((w.alloc o0).alloc o1) (w.heap.size + 1) lf' (.slice p4 lp' c4) (.slice p5 lk' c5) (.slice p6 ld' c6) := by
    have := Nb.new (w.alloc o0) lf' (.slice p4 lp' c4) (.slice p5 lk' c5) (.slice p6 ld' c6)
    rw [show (w.alloc o0).heap.size = w.heap.size + 1 by simp, ← ho1] at this
    exact this
  have n6 : Nb (((w.alloc o0).alloc o1).alloc o2) (w.heap.size + 1 + 1) false (.slice none 0 0) (.slice none 0 0) (.slice none 0 0) := by
    have := Nb.new ((w.alloc o0).alloc o1) false (.slice none 0 0) (.slice none 0 0) (.slice none 0 0)
    rw [show ((w.alloc o0).alloc o1).heap.size = w.heap.size + 1 + 1 by simp, ← ho2] at this
    exact this
  have hx1 := (hx0.kept (Kp.alloc none' _ o1) (fun h => h)).kept (Kp.alloc none' _ o2) (fun h => h)
  have hy1 := hy0.kept (Kp.alloc none' _ o2) (fun h => h)
  have hK0 : Kp none' w (((w.alloc o0).alloc o1).alloc o2) := ((Kp.alloc _ _ _).thenN (Kp.alloc _ _ _)).thenN (Kp.alloc _ _ _)
  subst ho0 ho1 ho2
  clear hP hP' h1 h2 h3 h4 hl
  go_enter Try.func25, Try.ntmps25
  go_upto_region 3 with fail
  generalize ((w.alloc (Obj.cells #[.bool false, .slice p1 lp c1, .slice p2 lk c2, .slice p3 ld c3] 26)).alloc (Obj.cells #[.bool lf', .slice p4 lp' c4, .slice p5 lk' c5, .slice p6 ld' c6] 26)).alloc (Obj.cells #[.bool false, .slice none 0 0, .slice none 0 0, .slice none 0 0] 26) = w1 at *
  have HLT : Hid (w.heap.size + 1 + 1 < w1.heap.size) := n6.lt
  have f0 : ∀ W : World, Kp (fun k => w.heap.size + 1 < k) w1 W → W.cell? ⟨w.heap.size, 2, none⟩ = some (.slice p2 lk c2) := fun W hk => (hx1.kept hk (fun h => by omega)).c2
  have f1 : ∀ W : World, Kp (fun k => w.heap.size + 1 < k) w1 W → W.cell? ⟨w.heap.size, 3, none⟩ = some (.slice p3 ld c3) := fun W hk => (hx1.kept hk (fun h => by omega)).c3
  have f2 : ∀ W : World, Kp (fun k => w.heap.size + 1 < k) w1 W → W.cell? ⟨w.heap.size + 1, 2, none⟩ = some (.slice p5 lk' c5) := fun W hk => (hy1.kept hk (fun h => by omega)).c2
  have f3 : ∀ W : World, Kp (fun k => w.heap.size + 1 < k) w1 W → W.cell? ⟨w.heap.size + 1, 3, none⟩ = some (.slice p6 ld' c6) := fun W hk => (hy1.kept hk (fun h => by omega)).c3
  have HSA : Hid (∀ W : World, Kp (fun k => w.heap.size + 1 < k) w1 W → Sl Value.string B W (.slice p2 lk c2) n.ks) := fun W hk => (hS.keptN hK0).kept hk (fun k hk' h => by omega)
  have HSB : Hid (∀ W : World, Kp (fun k => w.heap.size + 1 < k) w1 W → Sl Value.string B W (.slice p5 lk' c5) m.ks) := fun W hk => (hS'.keptN hK0).kept hk (fun k hk' h => by omega)
  have HDA : Hid (∀ W : World, Kp (fun k => w.heap.size + 1 < k) w1 W → Sl (Value.int .i64) B W (.slice p3 ld c3) n.kd) := fun W hk => (hD.keptN hK0).kept hk (fun k hk' h => by omega)
  have HDB : Hid (∀ W : World, Kp (fun k => w.heap.size + 1 < k) w1 W → Sl (Value.int .i64) B W (.slice p6 ld' c6) m.kd) := fun W hk => (hD'.keptN hK0).kept hk (fun k hk' h => by omega)
  clear hS hS' hD hD' hx0 hx1 hy0 hy1
  replace n6 := n6.kept (Kp.drew none' w1) (fun h => h)
  refine wp_region_held_drew (S := fun W => Kp (fun k => w.heap.size + 1 < k) w1 W) (by kernel_rfl) (Kp.drew _ _) (fun hHeld => ?_)
  refine take_at (i := 0) (d := 16) (v := ?_) rfl rfl (by kernel_rfl) (by kernel_rfl) (by kernel_rfl) (fun _ _ _ h => h) (Or.inl ⟨by rfl, ?_⟩) (by assumption) ?_
  rotate_left
  · intro W hSW
    try dsimp only at hSW
    have g0 := f0 W hSW
    have g1 := f1 W hSW
    have g2 := f2 W hSW
    have g3 := f3 W hSW
    go_simp
    try with_reducible rfl
  try simp only [Act.put, List.setIfInBounds_toArray, List.set_cons_zero, List.set_cons_succ]
  refine take_at (i := 1) (d := 17) (v := ?_) rfl rfl (by kernel_rfl) (by kernel_rfl) (by kernel_rfl) (fun _ _ _ h => h) (Or.inl ⟨by rfl, ?_⟩) (by assumption) ?_
  rotate_left
  · intro W hSW
    try dsimp only at hSW
    have g0 := f0 W hSW
    have g1 := f1 W hSW
    have g2 := f2 W hSW
    have g3 := f3 W hSW
    go_simp
    try with_reducible rfl
  try simp only [Act.put, List.setIfInBounds_toArray, List.set_cons_zero, List.set_cons_succ]
  refine take_at (i := 3) (d := 19) (v := ?_) rfl rfl (by kernel_rfl) (by kernel_rfl) (by kernel_rfl) (fun _ _ _ h => h) (Or.inl ⟨by rfl, ?_⟩) (by assumption) ?_
  rotate_left
  · intro W hSW
    try dsimp only at hSW
    have g0 := f0 W hSW
    have g1 := f1 W hSW
    have g2 := f2 W hSW
    have g3 := f3 W hSW
    go_simp
    try with_reducible rfl
  try simp only [Act.put, List.setIfInBounds_toArray, List.set_cons_zero, List.set_cons_succ]
  refine take_at (i := 6) (d := 22) (v := ?_) rfl rfl (by kernel_rfl) (by kernel_rfl) (by kernel_rfl) (fun _ _ _ h => h) (Or.inl ⟨by rfl, ?_⟩) (by assumption) ?_
  rotate_left
  · intro W hSW
    try dsimp only at hSW
    have g0 := f0 W hSW
    have g1 := f1 W hSW
    have g2 := f2 W hSW
    have g3 := f3 W hSW
    go_simp
    try with_reducible rfl
  try simp only [Act.put, List.setIfInBounds_toArray, List.set_cons_zero, List.set_cons_succ]
  refine take_at (i := 7) (d := 23) (v := ?_) rfl rfl (by kernel_rfl) (by kernel_rfl) (by kernel_rfl) (fun _ _ _ h => h) (Or.inl ⟨by rfl, ?_⟩) (by assumption) ?_
  rotate_left
  · intro W hSW
    try dsimp only at hSW
    have g0 := f0 W hSW
    have g1 := f1 W hSW
    have g2 := f2 W hSW
    have g3 := f3 W hSW
    go_simp
    try with_reducible rfl
  try simp only [Act.put, List.setIfInBounds_toArray, List.set_cons_zero, List.set_cons_succ]
  refine take_at (i := 9) (d := 25) (v := ?_) rfl rfl (by kernel_rfl) (by kernel_rfl) (by kernel_rfl) (fun _ _ _ h => h) (Or.inl ⟨by rfl, ?_⟩) (by assumption) ?_
  rotate_left
  · intro W hSW
    try dsimp only at hSW
    have g0 := f0 W hSW
    have g1 := f1 W hSW
    have g2 := f2 W hSW
    have g3 := f3 W hSW
    go_simp
    try with_reducible rfl
  try simp only [Act.put, List.setIfInBounds_toArray, List.set_cons_zero, List.set_cons_succ]
  refine take_at (i := 10) (d := 26) (v := ?_) rfl rfl (by kernel_rfl) (by kernel_rfl) (by kernel_rfl) (fun _ _ _ h => h) (Or.inl ⟨by rfl, ?_⟩) (by assumption) ?_
  rotate_left
  · intro W hSW
    try dsimp only at hSW
    have g0 := f0 W hSW
    have g1 := f1 W hSW
    have g2 := f2 W hSW
    have g3 := f3 W hSW
    go_simp
    try with_reducible rfl
  try simp only [Act.put, List.setIfInBounds_toArray, List.set_cons_zero, List.set_cons_succ]
  refine take_at (i := 12) (d := 28) (v := ?_) rfl rfl (by kernel_rfl) (by kernel_rfl) (by kernel_rfl) (fun _ _ _ h => h) (Or.inl ⟨by rfl, ?_⟩) (by assumption) ?_
  rotate_left
  · intro W hSW
    try dsimp only at hSW
    have g0 := f0 W hSW
    have g1 := f1 W hSW
    have g2 := f2 W hSW
    have g3 := f3 W hSW
    go_simp
    try with_reducible rfl
  try simp only [Act.put, List.setIfInBounds_toArray, List.set_cons_zero, List.set_cons_succ]
  refine take_at (i := 13) (d := 29) (v := ?_) rfl rfl (by kernel_rfl) (by kernel_rfl) (by kernel_rfl) (fun _ _ _ h => h) (Or.inl ⟨by rfl, ?_⟩) (by assumption) ?_
  rotate_left
  · intro W hSW
    try dsimp only at hSW
    have g0 := f0 W hSW
    have g1 := f1 W hSW
    have g2 := f2 W hSW
    have g3 := f3 W hSW
    go_simp
    try with_reducible rfl
  try simp only [Act.put, List.setIfInBounds_toArray, List.set_cons_zero, List.set_cons_succ]
  refine wpAnyH_ready (rs := [2, 4]) (by kernel_rfl) (by simp) ?_
  refine AllReadyH.cons rfl (fun K hK => ?_) ?_
  · obtain ⟨vK, wx2, hq2, oK, hgr2, hv2⟩ := appS _ w1.heap.size (.slice none 0 0) (.slice p2 lk c2) [] n.ks (Ow.nil _ _ _ _) ((HSA.out _ hHeld).src (fun _ => rfl) Try.underlying23) hHeld.size (by have := HLN.out; simp; omega)
    have hk2 : Kp none' _ wx2 := Kp.ofGrown hgr2 (fun k hk _ => by cases hk)
    rw [List.nil_append] at oK
    refine nstep_app_d (d := 18) (by rfl) (by rfl) (.const (.slice none 0 0)) (.tmp 17) 23 23 (by rfl) _ _ (by rfl) (by rfl) hq2 ?_
    clear hq2 hgr2 hv2
    replace n6 := n6.kept hk2 (fun h => h)
    refine hK.out _ _ (hHeld.thenN hk2) (fun hHeld => ?_)
    clear hK K
    try simp only [Act.put, List.setIfInBounds_toArray, List.set_cons_zero, List.set_cons_succ]
    refine wpAnyH_ready (rs := [4]) (by kernel_rfl) (by simp) ?_
    refine AllReadyH.cons rfl (fun K hK => ?_) ?_
    · refine nstep_key1 (d := 20) (by rfl) (by rfl) (.tmp 19) (by rfl) (by rfl) ?_
      intro wx4 gK hk1S hk4 hg4
      replace n6 := n6.kept hk4 (fun h => h)
      replace oK := oK.keptN hk4
      refine hK.out _ _ (hHeld.thenN hk4) (fun hHeld => ?_)
      clear hK K
      try simp only [Act.put, List.setIfInBounds_toArray, List.set_cons_zero, List.set_cons_succ]
      refine wpAnyH_ready (rs := [5]) (by kernel_rfl) (by simp) ?_
      refine AllReadyH.cons rfl (fun K hK => ?_) ?_
      · obtain ⟨vK5, wx5, hq5, oK5, hgr5, hv5⟩ := appS _ w1.heap.size vK _ _ [k] oK (hk1S.src (fun _ => rfl) Try.underlying23) hHeld.size (by have := HLN.out; simp; omega)
        have hk5 : Kp (fun z => vK.ownBlock = some z) _ wx5 := Kp.ofGrown hgr5 (fun k hk _ => hk)
        refine nstep_app_d (d := 21) (by rfl) (by rfl) (.tmp 18) (.tmp 20) 23 23 (by rfl) _ _ (by rfl) (by rfl) hq5 ?_
        clear hq5 hgr5 hv5
        replace n6 := n6.kept hk5 (fun h => by have := (oK.lt _ h).1; have := HLT.out; omega)
        have hb5 : ∀ z, vK.ownBlock = some z → w1.heap.size ≤ z := fun z hz => (oK.lt z hz).1
        refine hK.out _ _ (hHeld.trans hk5 (fun _ _ h => h) (fun k hk h => absurd hk (by have := hb5 k h; omega))) (fun hHeld => ?_)
        clear hK K
        try simp only [Act.put, List.setIfInBounds_toArray, List.set_cons_zero, List.set_cons_succ]
        clear oK hk5 hb5
        have oK := oK5
        clear oK5
        refine wpAnyH_ready (rs := [8]) (by kernel_rfl) (by simp) ?_
        refine AllReadyH.cons rfl (fun K hK => ?_) ?_
        · obtain ⟨vK8, wx8, hq8, oK8, hgr8, hv8⟩ := appS _ w1.heap.size vK5 (.slice p5 lk' c5) _ m.ks oK ((HSB.out _ hHeld).src (fun _ => rfl) Try.underlying23) hHeld.size (by have := HLN.out; simp; omega)
          have hk8 : Kp (fun z => vK5.ownBlock = some z) _ wx8 := Kp.ofGrown hgr8 (fun k hk _ => hk)
          refine nstep_app_d (d := 24) (by rfl) (by rfl) (.tmp 21) (.tmp 23) 23 23 (by rfl) _ _ (by rfl) (by rfl) hq8 ?_
          clear hq8 hgr8 hv8
          replace n6 := n6.kept hk8 (fun h => by have := (oK.lt _ h).1; have := HLT.out; omega)
          have hb8 : ∀ z, vK5.ownBlock = some z → w1.heap.size ≤ z := fun z hz => (oK.lt z hz).1
          refine hK.out _ _ (hHeld.trans hk8 (fun _ _ h => h) (fun k hk h => absurd hk (by have := hb8 k h; omega))) (fun hHeld => ?_)
          clear hK K
          try simp only [Act.put, List.setIfInBounds_toArray, List.set_cons_zero, List.set_cons_succ]
          clear oK hk8 hb8
          have oK := oK8
          clear oK8
          refine wpAnyH_ready (rs := [11]) (by kernel_rfl) (by simp) ?_
          refine AllReadyH.cons rfl (fun K hK => ?_) ?_
          · obtain ⟨vD, wx11, hq11, oD, hgr11, hv11⟩ := appI _ w1.heap.size (.slice none 0 0) (.slice p3 ld c3) [] n.kd (Ow.nil _ _ _ _) ((HDA.out _ hHeld).src (fun _ => rfl) Try.underlying24) hHeld.size (by have := HLN.out; simp; omega)
            have hk11 : Kp none' _ wx11 := Kp.ofGrown hgr11 (fun k hk _ => by cases hk)
            rw [List.nil_append] at oD
            refine nstep_app_d (d := 27) (by rfl) (by rfl) (.const (.slice none 0 0)) (.tmp 26) 24 24 (by rfl) _ _ (by rfl) (by rfl) hq11 ?_
            have hdis : ∀ z, vD.ownBlock = some z → vK8.ownBlock = some z → False := fun z h1 h2 => by
              have h3 := (oK.lt z h2).2
              rcases hv11 with e | e
              · rw [e] at h1; cases h1
              · rw [e] at h1; cases h1; omega
            clear hq11 hgr11 hv11
            replace n6 := n6.kept hk11 (fun h => h)
            replace oK := oK.keptN hk11
            refine hK.out _ _ (hHeld.thenN hk11) (fun hHeld => ?_)
            clear hK K
            try simp only [Act.put, List.setIfInBounds_toArray, List.set_cons_zero, List.set_cons_succ]
            refine wpAnyH_ready (rs := [14]) (by kernel_rfl) (by simp) ?_
            refine AllReadyH.cons rfl (fun K hK => ?_) ?_
            · obtain ⟨vD4, wx14, hq14, oD4, hgr14, hv14⟩ := appI _ w1.heap.size vD (.slice p6 ld' c6) _ m.kd oD ((HDB.out _ hHeld).src (fun _ => rfl) Try.underlying24) hHeld.size (by have := HLN.out; simp; omega)
              have hk14 : Kp (fun z => vD.ownBlock = some z) _ wx14 := Kp.ofGrown hgr14 (fun k hk _ => hk)
              refine nstep_app_d (d := 30) (by rfl) (by rfl) (.tmp 27) (.tmp 29) 24 24 (by rfl) _ _ (by rfl) (by rfl) hq14 ?_
              clear hq14 hgr14 hv14
              replace n6 := n6.kept hk14 (fun h => by have := (oD.lt _ h).1; have := HLT.out; omega)
              replace oK := oK.kept hk14 (fun z hz h => hdis z h hz)
              have hb14 : ∀ z, vD.ownBlock = some z → w1.heap.size ≤ z := fun z hz => (oD.lt z hz).1
              refine hK.out _ _ (hHeld.trans hk14 (fun _ _ h => h) (fun k hk h => absurd hk (by have := hb14 k h; omega))) (fun hHeld => ?_)
              clear hK K
              try simp only [Act.put, List.setIfInBounds_toArray, List.set_cons_zero, List.set_cons_succ]
              obtain ⟨aK, mK, cK, eK⟩ := ow_slice oK
              obtain ⟨aD, mD, cD, eD⟩ := ow_slice oD4
              subst eK eD
              clear oD hk14 hb14 hdis
              refine take_at (i := 15) (d := 31) (v := ?_) rfl rfl (by kernel_rfl) (by kernel_rfl) (by kernel_rfl) (fun _ _ _ h => h) (Or.inl ⟨by rfl, ?_⟩) (by assumption) ?_
              rotate_left
              · intro W hSW
                try dsimp only at hSW
                go_simp
                try with_reducible rfl
              try simp only [Act.put, List.setIfInBounds_toArray, List.set_cons_zero, List.set_cons_succ]
              refine wpAnyH_ready (rs := [16]) (by kernel_rfl) (by simp) ?_
              refine AllReadyH.cons rfl (fun K hK => ?_) ?_
              · refine nstep_store_nb (by rfl) (by rfl) (.tmp 6) (.tmp 31) (by rfl) (w.heap.size + 1 + 1) (by rfl) (by rfl) n6 ?_
                clear n6
                intro wx16 n6 hk16
                replace oK := oK.kept hk16 (fun z hz e => by have := (oK.lt z hz).1; have := HLT.out; unfold only at e; omega)
                replace oD4 := oD4.kept hk16 (fun z hz e => by have := (oD4.lt z hz).1; have := HLT.out; unfold only at e; omega)
                refine hK.out _ _ (hHeld.trans hk16 (fun _ _ h => h) (fun k _ e => by unfold only at e; show _ < _; omega)) (fun hHeld => ?_)
                clear hK K
                try simp only [Act.put, List.setIfInBounds_toArray, List.set_cons_zero, List.set_cons_succ]
                refine wpAnyH_done (by kernel_rfl) ?_ _
                try go_wp2
                refine bodyPost_ret (results_nb1 rfl _ (w.heap.size + 1 + 1) _ rfl n6) rfl ?_
                exact ⟨_, rfl, ⟨⟨_, _, _, rfl, Prs.nil _ _, oK.sl, oD4.sl⟩, ⟨by simp, HWK.out, HWD.out⟩⟩, hK0.trans hHeld (fun _ _ h => h) (fun k hk h => absurd hk (by have h' : w.heap.size + 1 < k := h; omega))⟩
              exact AllReadyH.nil
            exact AllReadyH.nil
          exact AllReadyH.nil
        exact AllReadyH.nil
      exact AllReadyH.nil
    exact AllReadyH.nil
  refine AllReadyH.cons rfl (fun K hK => ?_) ?_
  · refine nstep_key1 (d := 20) (by rfl) (by rfl) (.tmp 19) (by rfl) (by rfl) ?_
    intro wx4 gK hk1S hk4 hg4
    replace n6 := n6.kept hk4 (fun h => h)
    refine hK.out _ _ (hHeld.thenN hk4) (fun hHeld => ?_)
    clear hK K
    try simp only [Act.put, List.setIfInBounds_toArray, List.set_cons_zero, List.set_cons_succ]
    refine wpAnyH_ready (rs := [2]) (by kernel_rfl) (by simp) ?_
    refine AllReadyH.cons rfl (fun K hK => ?_) ?_
    · obtain ⟨vK, wx2, hq2, oK, hgr2, hv2⟩ := appS _ w1.heap.size (.slice none 0 0) (.slice p2 lk c2) [] n.ks (Ow.nil _ _ _ _) ((HSA.out _ hHeld).src (fun _ => rfl) Try.underlying23) hHeld.size (by have := HLN.out; simp; omega)
      have hk2 : Kp none' _ wx2 := Kp.ofGrown hgr2 (fun k hk _ => by cases hk)
      rw [List.nil_append] at oK
      refine nstep_app_d (d := 18) (by rfl) (by rfl) (.const (.slice none 0 0)) (.tmp 17) 23 23 (by rfl) _ _ (by rfl) (by rfl) hq2 ?_
      clear hq2 hgr2 hv2
      replace n6 := n6.kept hk2 (fun h => h)
      replace hk1S := hk1S.keptN hk2
      refine hK.out _ _ (hHeld.thenN hk2) (fun hHeld => ?_)
      clear hK K
      try simp only [Act.put, List.setIfInBounds_toArray, List.set_cons_zero, List.set_cons_succ]
      refine wpAnyH_ready (rs := [5]) (by kernel_rfl) (by simp) ?_
      refine AllReadyH.cons rfl (fun K hK => ?_) ?_
      · obtain ⟨vK5, wx5, hq5, oK5, hgr5, hv5⟩ := appS _ w1.heap.size vK _ _ [k] oK (hk1S.src (fun _ => rfl) Try.underlying23) hHeld.size (by have := HLN.out; simp; omega)
        have hk5 : Kp (fun z => vK.ownBlock = some z) _ wx5 := Kp.ofGrown hgr5 (fun k hk _ => hk)
        refine nstep_app_d (d := 21) (by rfl) (by rfl) (.tmp 18) (.tmp 20) 23 23 (by rfl) _ _ (by rfl) (by rfl) hq5 ?_
        clear hq5 hgr5 hv5
        replace n6 := n6.kept hk5 (fun h => by have := (oK.lt _ h).1; have := HLT.out; omega)
        have hb5 : ∀ z, vK.ownBlock = some z → w1.heap.size ≤ z := fun z hz => (oK.lt z hz).1
        refine hK.out _ _ (hHeld.trans hk5 (fun _ _ h => h) (fun k hk h => absurd hk (by have := hb5 k h; omega))) (fun hHeld => ?_)
        clear hK K
        try simp only [Act.put, List.setIfInBounds_toArray, List.set_cons_zero, List.set_cons_succ]
        clear oK hk5 hb5
        have oK := oK5
        clear oK5
        refine wpAnyH_ready (rs := [8]) (by kernel_rfl) (by simp) ?_
        refine AllReadyH.cons rfl (fun K hK => ?_) ?_
        · obtain ⟨vK8, wx8, hq8, oK8, hgr8, hv8⟩ := appS _ w1.heap.size vK5 (.slice p5 lk' c5) _ m.ks oK ((HSB.out _ hHeld).src (fun _ => rfl) Try.underlying23) hHeld.size (by have := HLN.out; simp; omega)
          have hk8 : Kp (fun z => vK5.ownBlock = some z) _ wx8 := Kp.ofGrown hgr8 (fun k hk _ => hk)
          refine nstep_app_d (d := 24) (by rfl) (by rfl) (.tmp 21) (.tmp 23) 23 23 (by rfl) _ _ (by rfl) (by rfl) hq8 ?_
          clear hq8 hgr8 hv8
          replace n6 := n6.kept hk8 (fun h => by have := (oK.lt _ h).1; have := HLT.out; omega)
          have hb8 : ∀ z, vK5.ownBlock = some z → w1.heap.size ≤ z := fun z hz => (oK.lt z hz).1
          refine hK.out _ _ (hHeld.trans hk8 (fun _ _ h => h) (fun k hk h => absurd hk (by have := hb8 k h; omega))) (fun hHeld => ?_)
          clear hK K
          try simp only [Act.put, List.setIfInBounds_toArray, List.set_cons_zero, List.set_cons_succ]
          clear oK hk8 hb8
          have oK := oK8
          clear oK8
          refine wpAnyH_ready (rs := [11]) (by kernel_rfl) (by simp) ?_
          refine AllReadyH.cons rfl (fun K hK => ?_) ?_
          · obtain ⟨vD, wx11, hq11, oD, hgr11, hv11⟩ := appI _ w1.heap.size (.slice none 0 0) (.slice p3 ld c3) [] n.kd (Ow.nil _ _ _ _) ((HDA.out _ hHeld).src (fun _ => rfl) Try.underlying24) hHeld.size (by have := HLN.out; simp; omega)
            have hk11 : Kp none' _ wx11 := Kp.ofGrown hgr11 (fun k hk _ => by cases hk)
            rw [List.nil_append] at oD
            refine nstep_app_d (d := 27) (by rfl) (by rfl) (.const (.slice none 0 0)) (.tmp 26) 24 24 (by rfl) _ _ (by rfl) (by rfl) hq11 ?_
            have hdis : ∀ z, vD.ownBlock = some z → vK8.ownBlock = some z → False := fun z h1 h2 => by
              have h3 := (oK.lt z h2).2
              rcases hv11 with e | e
              · rw [e] at h1; cases h1
              · rw [e] at h1; cases h1; omega
            clear hq11 hgr11 hv11
            replace n6 := n6.kept hk11 (fun h => h)
            replace oK := oK.keptN hk11
            refine hK.out _ _ (hHeld.thenN hk11) (fun hHeld => ?_)
            clear hK K
            try simp only [Act.put, List.setIfInBounds_toArray, List.set_cons_zero, List.set_cons_succ]
            refine wpAnyH_ready (rs := [14]) (by kernel_rfl) (by simp) ?_
            refine AllReadyH.cons rfl (fun K hK => ?_) ?_
            · obtain ⟨vD4, wx14, hq14, oD4, hgr14, hv14⟩ := appI _ w1.heap.size vD (.slice p6 ld' c6) _ m.kd oD ((HDB.out _ hHeld).src (fun _ => rfl) Try.underlying24) hHeld.size (by have := HLN.out; simp; omega)
              have hk14 : Kp (fun z => vD.ownBlock = some z) _ wx14 := Kp.ofGrown hgr14 (fun k hk _ => hk)
              refine nstep_app_d (d := 30) (by rfl) (by rfl) (.tmp 27) (.tmp 29) 24 24 (by rfl) _ _ (by rfl) (by rfl) hq14 ?_
              clear hq14 hgr14 hv14
              replace n6 := n6.kept hk14 (fun h => by have := (oD.lt _ h).1; have := HLT.out; omega)
              replace oK := oK.kept hk14 (fun z hz h => hdis z h hz)
              have hb14 : ∀ z, vD.ownBlock = some z → w1.heap.size ≤ z := fun z hz => (oD.lt z hz).1
              refine hK.out _ _ (hHeld.trans hk14 (fun _ _ h => h) (fun k hk h => absurd hk (by have := hb14 k h; omega))) (fun hHeld => ?_)
              clear hK K
              try simp only [Act.put, List.setIfInBounds_toArray, List.set_cons_zero, List.set_cons_succ]
              obtain ⟨aK, mK, cK, eK⟩ := ow_slice oK
              obtain ⟨aD, mD, cD, eD⟩ := ow_slice oD4
              subst eK eD
              clear oD hk14 hb14 hdis
              refine take_at (i := 15) (d := 31) (v := ?_) rfl rfl (by kernel_rfl) (by kernel_rfl) (by kernel_rfl) (fun _ _ _ h => h) (Or.inl ⟨by rfl, ?_⟩) (by assumption) ?_
              rotate_left
              · intro W hSW
                try dsimp only at hSW
                go_simp
                try with_reducible rfl
              try simp only [Act.put, List.setIfInBounds_toArray, List.set_cons_zero, List.set_cons_succ]
              refine wpAnyH_ready (rs := [16]) (by kernel_rfl) (by simp) ?_
              refine AllReadyH.cons rfl (fun K hK => ?_) ?_
              · refine nstep_store_nb (by rfl) (by rfl) (.tmp 6) (.tmp 31) (by rfl) (w.heap.size + 1 + 1) (by rfl) (by rfl) n6 ?_
                clear n6
                intro wx16 n6 hk16
                replace oK := oK.kept hk16 (fun z hz e => by have := (oK.lt z hz).1; have := HLT.out; unfold only at e; omega)
                replace oD4 := oD4.kept hk16 (fun z hz e => by have := (oD4.lt z hz).1; have := HLT.out; unfold only at e; omega)
                refine hK.out _ _ (hHeld.trans hk16 (fun _ _ h => h) (fun k _ e => by unfold only at e; show _ < _; omega)) (fun hHeld => ?_)
                clear hK K
                try simp only [Act.put, List.setIfInBounds_toArray, List.set_cons_zero, List.set_cons_succ]
                refine wpAnyH_done (by kernel_rfl) ?_ _
                try go_wp2
                refine bodyPost_ret (results_nb1 rfl _ (w.heap.size + 1 + 1) _ rfl n6) rfl ?_
                exact ⟨_, rfl, ⟨⟨_, _, _, rfl, Prs.nil _ _, oK.sl, oD4.sl⟩, ⟨by simp, HWK.out, HWD.out⟩⟩, hK0.trans hHeld (fun _ _ h => h) (fun k hk h => absurd hk (by have h' : w.heap.size + 1 < k := h; omega))⟩
              exact AllReadyH.nil
            exact AllReadyH.nil
          exact AllReadyH.nil
        exact AllReadyH.nil
      exact AllReadyH.nil
    exact AllReadyH.nil
  exact AllReadyH.nil

theorem rjoin9_any (x y : Value) (n m : Nd) (B : Nat) (k : ByteArray) (w : World) (hN : Nv B w x n) (hM : Nv B w y m) (hB : B ≤ w.heap.size) (hkm : k.size ≤ maxLen) (h0 : n.ps.length ≤ 1048576) (h0' : m.ps.length ≤ 1048576) (h1 : n.ks.length ≤ 1048576) (h2 : m.ks.length ≤ 1048576) (h3 : n.kd.length ≤ 1048577) (h4 : m.kd.length ≤ 1048577) :
    Calls Try.prog 25 #[x, y, .string k] w fun e w' => ∃ z, e = .returned z ∧ Nv w'.heap.size w' z (n.join m k) ∧ Kp none' w w' := by
  cases h : n.leaf with
  | true => exact rjoin9_leaf x y n m B k w hN hM h h0 h0'
  | false => exact rjoin9_inner x y n m B k w hN hM hB hkm h h1 h2 h3 h4

end Go.Proofs.Ytjmkfkmdafjgnaa
