/- Contracts, over the turned program: what a key has by now. Conditions: those that each theorem states. -/
import Derived.Test.YtpoahegccjgnjaaGreatDoorHJi
import Derived.Test.YtpoahegccjgnjaaGreatDoorHDk
import Derived.Test.YtpoahegccjgnjaaGreatDoorHJo
namespace Go.Proofs.YtpoahegccjgnjaaGreatDoor
open Go.RowKit
set_option linter.unusedVariables false

/-- A table that can be asked, as a step knows it. -/
def AskP (B : Bd) (tv : Value) (T : V → Option V) (w0 : World) : Prop := ∀ (k : V) (W : World), k.wf → Kp (Bk B) w0 W → Calls Tryz.prog 84 #[tv, k.val] W fun e w' => e = .returned (.tuple #[(obV (T k)).val, .bool (T k).isSome]) ∧ W.grownBy w' none
theorem ask_nil (B : Bd) (w0 : World) : AskP B .nilIface (fun _ => none) w0 := fun k W _ _ => m_ask_nil k W
set_option maxRecDepth 100000 in
set_option maxHeartbeats 1000000 in
theorem m_look (B : Bd) (g : Nat) (tv rv pv ov kv : Value) (S : Ms) (T : V → Option V) (k : V) (w0 w : World) (hM : Mb B w g tv S rv pv ov kv) (hA : AskP B tv T w0) (hK : Kp (Bk B) w0 w) (hk : k.wf) :
    Calls Tryz.prog 64 #[.pointer (some ⟨g, 0, none⟩), k.val] w fun e w' => e = .returned (.tuple #[(obV (S.look T k)).val, .bool (S.look T k).isSome]) ∧ w.grownBy w' none := by
  obtain ⟨o, HO⟩ : ∃ o, Hid (S.look T k = o) := ⟨_, rfl⟩
  rw [HO.out]
  have hA1 := World.grownBy_alloc w (.cells #[.int .i64 k.k, .int .i64 k.n, .string k.s] 31) none
  have hK1 := Vb.new w k
  have hs1 : (w.alloc (.cells #[.int .i64 k.k, .int .i64 k.n, .string k.s] 31)).heap.size = w.heap.size + 1 := World.size_alloc _ _
  have hA2 := World.grownBy_alloc (w.alloc (.cells #[.int .i64 k.k, .int .i64 k.n, .string k.s] 31)) (.cells #[.int .i64 0, .int .i64 0, .string ⟨#[]⟩] 31) none
  have hV := Vb.new (w.alloc (.cells #[.int .i64 k.k, .int .i64 k.n, .string k.s] 31)) ⟨0, 0, ⟨#[]⟩⟩
  rw [hs1] at hV
  dsimp only at hV
  have hKv := hK1.kept hA2 (by simp)
  have hgA := grown_up hA1 hA2
  have hM1 := hM.keptN hgA
  have HQ := hide (hK.then (kp_n (B := B) hgA))
  have HA := hide (fun W h => hA k W hk h)
  have hcall := m_named B g tv rv pv ov kv S k _ hM1
  have hgq : g < w.heap.size := hM.lt
  unfold V.val at hcall HA ⊢
  go_enter Tryz.func64, Tryz.ntmps64
  go_upto_region 1 with fail
  clear hA1 hA2 hK1 hs1 hM hA hK hk
  generalize (w.alloc (.cells #[.int .i64 k.k, .int .i64 k.n, .string k.s] 31)).alloc (.cells #[.int .i64 0, .int .i64 0, .string ⟨#[]⟩] 31) = W at *
  obtain ⟨q, hq⟩ : ∃ q, w.heap.size = q := ⟨_, rfl⟩
  obtain ⟨p, hp⟩ : ∃ p, q + 1 = p := ⟨_, rfl⟩
  rw [hq] at hgq hV hKv ⊢
  rw [hp] at hV ⊢
  have k0 := hKv.c0
  have k1 := hKv.c1
  have k2 := hKv.c2
  cases hn : nam S.pu k with
  | none =>
    rw [hn] at hcall
    have e := HO.out
    unfold Ms.look at e
    rw [hn] at e
    dsimp only at e
    subst e
    clear hn
    unfold idI at hcall
    dsimp only at hcall
    go_upto_region 4 with (go_at_call 82; refine hcall.mono ?_; rintro e w2 ⟨rfl, hg2⟩)
    have hM2 := hM1.keptN hg2
    have hKv2 := hKv.kept hg2 (by simp)
    have hV2 := hV.kept hg2 (by simp)
    have HQ := hide (HQ.out.then (kp_n (B := B) hg2))
    clear k0 k1 k2 hKv hV hcall hM1
    have k0 := hKv2.c0
    have k1 := hKv2.c1
    have k2 := hKv2.c2
    have t0 := hM2.tb.c0
    have np : ¬ only p g := fun e => by unfold only at e; omega
    have npq : ¬ only p q := fun e => by unfold only at e; omega
    generalize hy : obV (T k) = y at *
    generalize hz : (T k).isSome = z at *
    refine wp_region_held_drew (S := fun W0 => Kp (only p) w2 W0) (by kernel_rfl) (Kp.drew _ _) (fun hHeld => ?_)
    refine take_at (i := 0) (d := 23) (v := ?_) rfl rfl (by kernel_rfl) (by kernel_rfl) (by kernel_rfl) (fun _ _ _ h => h) (Or.inl ⟨by rfl, ?_⟩) (by assumption) ?_
    rotate_left
    · intro W hSW
      try dsimp only at hSW
      have g0 := hSW.cell t0 np
      have g1 := hSW.cell k0 npq
      have g2 := hSW.cell k1 npq
      have g3 := hSW.cell k2 npq
      go_simp
      try with_reducible rfl
    try simp only [Act.put, List.setIfInBounds_toArray, List.set_cons_zero, List.set_cons_succ]
    refine take_at (i := 1) (d := 24) (v := ?_) rfl rfl (by kernel_rfl) (by kernel_rfl) (by kernel_rfl) (fun _ _ _ h => h) (Or.inl ⟨by rfl, ?_⟩) (by assumption) ?_
    rotate_left
    · intro W hSW
      try dsimp only at hSW
      have g0 := hSW.cell t0 np
      have g1 := hSW.cell k0 npq
      have g2 := hSW.cell k1 npq
      have g3 := hSW.cell k2 npq
      go_simp
      try with_reducible rfl
    try simp only [Act.put, List.setIfInBounds_toArray, List.set_cons_zero, List.set_cons_succ]
    refine take_at (i := 2) (d := 25) (v := ?_) rfl rfl (by kernel_rfl) (by kernel_rfl) (by kernel_rfl) (fun _ _ _ h => h) (Or.inl ⟨by rfl, ?_⟩) (by assumption) ?_
    rotate_left
    · intro W hSW
      try dsimp only at hSW
      have g0 := hSW.cell t0 np
      have g1 := hSW.cell k0 npq
      have g2 := hSW.cell k1 npq
      have g3 := hSW.cell k2 npq
      go_simp
      try with_reducible rfl
    try simp only [Act.put, List.setIfInBounds_toArray, List.set_cons_zero, List.set_cons_succ]
    refine take_at (i := 3) (d := 26) (v := ?_) rfl rfl (by kernel_rfl) (by kernel_rfl) (by kernel_rfl) (fun _ _ _ h => h) (Or.inl ⟨by rfl, ?_⟩) (by assumption) ?_
    rotate_left
    · intro W hSW
      try dsimp only at hSW
      have g0 := hSW.cell t0 np
      have g1 := hSW.cell k0 npq
      have g2 := hSW.cell k1 npq
      have g3 := hSW.cell k2 npq
      go_simp
      try with_reducible rfl
    try simp only [Act.put, List.setIfInBounds_toArray, List.set_cons_zero, List.set_cons_succ]
    refine take_at (i := 4) (d := 27) (v := ?_) rfl rfl (by kernel_rfl) (by kernel_rfl) (by kernel_rfl) (fun _ _ _ h => h) (Or.inl ⟨by rfl, ?_⟩) (by assumption) ?_
    rotate_left
    · intro W hSW
      try dsimp only at hSW
      have g0 := hSW.cell t0 np
      have g1 := hSW.cell k0 npq
      have g2 := hSW.cell k1 npq
      have g3 := hSW.cell k2 npq
      go_simp
      try with_reducible rfl
    try simp only [Act.put, List.setIfInBounds_toArray, List.set_cons_zero, List.set_cons_succ]
    refine wpAnyH_ready (rs := [5]) (by kernel_rfl) (by simp) ?_
    refine AllReadyH.cons rfl (fun K hK => ?_) ?_
    · go_simp
      go_wp2_with (go_at_call 84; refine (HA.out _ (HQ.out.then (kp_n (grown_dr w2)))).mono ?_; rintro e w5 ⟨rfl, hg5⟩; have hV5 := (hV2.kept (grown_dr _) (by simp)).kept hg5 (by simp); have v0 := hV5.c0; have v1 := hV5.c1; have v2 := hV5.c2; have vf := hV5.fz)
      refine hK.out _ _ ((Kp.drew _ _).then (Kp.ofN hg5 _)) (fun hHeld => ?_)
      clear hK K
      try simp only [Act.put, List.setIfInBounds_toArray, List.set_cons_zero, List.set_cons_succ]
      refine take_at (i := 6) (d := 29) (v := ?_) rfl rfl (by kernel_rfl) (by kernel_rfl) (by kernel_rfl) (fun _ _ _ h => h) (Or.inl ⟨by rfl, ?_⟩) (by assumption) ?_
      rotate_left
      · intro W hSW
        try dsimp only at hSW
        go_simp
        try with_reducible rfl
      try simp only [Act.put, List.setIfInBounds_toArray, List.set_cons_zero, List.set_cons_succ]
      refine take_at (i := 7) (d := 30) (v := ?_) rfl rfl (by kernel_rfl) (by kernel_rfl) (by kernel_rfl) (fun _ _ _ h => h) (Or.inl ⟨by rfl, ?_⟩) (by assumption) ?_
      rotate_left
      · intro W hSW
        try dsimp only at hSW
        go_simp
        try with_reducible rfl
      try simp only [Act.put, List.setIfInBounds_toArray, List.set_cons_zero, List.set_cons_succ]
      refine wpAnyH_ready (rs := [8]) (by kernel_rfl) (by simp) ?_
      refine AllReadyH.cons rfl (fun K hK => ?_) ?_
      · go_simp
        have hP := vb_set hV5 y
        refine hK.out _ _ (((Kp.drew _ _).then (Kp.ofN hg5 _)).then (Kp.ofGrown hP.2 (fun k e _ => by cases e; rfl))) (fun hHeld => ?_)
        clear hK K
        try simp only [Act.put, List.setIfInBounds_toArray, List.set_cons_zero, List.set_cons_succ]
        refine take_at (i := 9) (d := 5) (v := ?_) rfl rfl (by kernel_rfl) (by kernel_rfl) (by kernel_rfl) (fun _ _ _ h => h) (Or.inl ⟨by rfl, ?_⟩) (by assumption) ?_
        rotate_left
        · intro W hSW
          try dsimp only at hSW
          go_simp
          try with_reducible rfl
        try simp only [Act.put, List.setIfInBounds_toArray, List.set_cons_zero, List.set_cons_succ]
        refine wpAnyH_done (by kernel_rfl) ?_ _
        go_wp2
        refine bodyPost_ret (results_vb rfl _ p _ y _ rfl rfl hP.1) rfl ?_
        subst hy hz
        exact ⟨rfl, grown_new (grown_up (grown_up (grown_up hgA hg2) (grown_dr _)) hg5) hP.2 (fun j e => by cases e; omega)⟩
      exact AllReadyH.nil
    exact AllReadyH.nil
  | some n =>
    have hnl := (nam_some hn).1
    rw [hn] at hcall
    have e := HO.out
    unfold Ms.look at e
    rw [hn] at e
    dsimp only at e
    subst e
    clear hn
    unfold idI at hcall
    dsimp only at hcall
    have hn0 : (0 : Int) ≤ (n : Int) := by omega
    go_upto_region 3 with (go_at_call 82; refine hcall.mono ?_; rintro e w2 ⟨rfl, hg2⟩)
    have hM2 := hM1.keptN hg2
    have hV2 := hV.kept hg2 (by simp)
    clear k0 k1 k2 hKv hV hcall hM1
    rcases hM2.pu.shape with ⟨_, h0⟩ | ⟨pr, pcap, rfl, hBp, hpl⟩
    · rw [h0] at hnl; cases hnl
    · have t3 := hM2.tb.c3
      have hcs := fun j u hu => OwR.cells (r := pr) hM2.pu clW rfl n hnl j u hu
      rw [← getD_lt S.pu n dW hnl] at hcs
      have e0 : w2.cell? ⟨pr, n * 7, none⟩ = some (.int .i64 (S.pu.getD n dW).k.k) := hcs 0 _ rfl
      have e1 := hcs 1 _ rfl
      have e2 := hcs 2 _ rfl
      have e3 := hcs 3 _ rfl
      have e4 := hcs 4 _ rfl
      have e5 := hcs 5 _ rfl
      have e6 := hcs 6 _ rfl
      have hnl' : (n : Int) < (S.pu.length : Int) := by omega
      obtain ⟨N, HN⟩ : ∃ N, Hid (S.pu.length = N) := ⟨_, rfl⟩
      rw [HN.out] at t3 hnl'
      clear hcs
      generalize hx : S.pu.getD n dW = x at *
      have HX := hide hx
      clear hx
      obtain ⟨y, HY⟩ : ∃ y, Hid (obV (beh x) = y) := ⟨_, rfl⟩
      obtain ⟨z, HZ⟩ : ∃ z, Hid ((beh x).isSome = z) := ⟨_, rfl⟩
      have Hbh : Hid (∀ W, Calls Tryz.prog 83 #[.agg #[.int .i64 x.k.k, .int .i64 x.k.n, .string x.k.s, .int .i64 x.v.k, .int .i64 x.v.n, .string x.v.s, .bool x.g]] W fun e w' => e = .returned (.tuple #[.agg #[.int .i64 y.k, .int .i64 y.n, .string y.s], .bool z]) ∧ W.grownBy w' none) := by
        intro W
        have h := m_behind x W
        rw [HY.out, HZ.out] at h
        exact h
      go_wp2_with (go_at_call 83; refine (Hbh.out _).mono ?_; rintro e w5 ⟨rfl, hg5⟩; have hV5 := hV2.kept hg5 (by simp); have v0 := hV5.c0; have v1 := hV5.c1; have v2 := hV5.c2; have vf := hV5.fz; have hP := vb_set hV5 y)
      refine bodyPost_ret (results_vb rfl _ p _ y _ rfl rfl hP.1) rfl ?_
      rw [HX.out, HY.out, HZ.out]
      exact ⟨rfl, grown_new (grown_up (grown_up hgA hg2) hg5) hP.2 (fun j e => by cases e; omega)⟩

end Go.Proofs.YtpoahegccjgnjaaGreatDoor
