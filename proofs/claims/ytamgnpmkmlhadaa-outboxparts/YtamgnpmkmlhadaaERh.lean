/- Contracts, over the turned program: the value of bytes, as the document reads them. Conditions: those that each theorem states. -/
import Derived.Test.YtamgnpmkmlhadaaERg
import Derived.Test.YtamgnpmkmlhadaaRefRead
namespace Go.Proofs.Ytamgnpmkmlhadaa
open Go Go.RowKit
set_option linter.unusedVariables false

/-- The document's reader in memory, with what is left and the error. -/
def Rz (w : World) (b : Nat) (s : ByteArray) (t : Sr) : Prop := s.size ≤ maxLen ∧ ∃ p, p ≤ s.size ∧ rest s p = t.1 ∧ Rf w b s p t.2
theorem Rz.lt {w : World} {b : Nat} {s : ByteArray} {t : Sr} (h : Rz w b s t) : b < w.heap.size := by obtain ⟨_, p, _, _, h⟩ := h; exact h.lt
theorem Rz.ce {w : World} {b : Nat} {s : ByteArray} {t : Sr} (h : Rz w b s t) : w.cell? ⟨b, 2, none⟩ = some (.int .i64 t.2) := by obtain ⟨_, p, _, _, h⟩ := h; exact h.c2
theorem Rz.kept {w w' : World} {b : Nat} {s : ByteArray} {t : Sr} {row : Option Nat} (h : Rz w b s t) (hg : w.grownBy w' row) (hne : some b ≠ row) : Rz w' b s t := by
  obtain ⟨hs, p, h1, h2, h3⟩ := h
  exact ⟨hs, p, h1, h2, h3.kept hg hne⟩
theorem Rz.new (w : World) (s : ByteArray) (hs : s.size ≤ maxLen) : Rz (w.alloc (.cells #[.string s, .int .i64 0, .int .i64 0] 67)) w.heap.size s (s, 0) := ⟨hs, 0, Nat.zero_le _, rest_self s, Rf.new w s⟩
theorem rznum_any (b : Nat) (s : ByteArray) (t : Sr) (k : Int) (m : Nat) (hm : wid k = m) (w : World) (h : Rz w b s t) :
    Calls Try.prog 35 #[.pointer (some ⟨b, 0, none⟩), .int .i64 k] w fun y w' => y = .returned (.int .u64 (nX t m : Int)) ∧ Rz w' b s (nN t m) ∧ w.grownBy w' (some b) := by
  subst hm
  obtain ⟨hs, p, h1, h2, h3⟩ := h
  have := rfrnum_any b s p t.2 k w h3 h1 hs
  rw [h2] at this
  refine this.mono ?_
  rintro y w' ⟨rfl, p', h4, h5, h6, h7⟩
  exact ⟨rfl, ⟨hs, p', h4, h5, h6⟩, h7⟩
theorem rzstr_any (b : Nat) (s : ByteArray) (t : Sr) (w : World) (h : Rz w b s t) :
    Calls Try.prog 61 #[.pointer (some ⟨b, 0, none⟩), .int .i64 10] w fun y w' => y = .returned (.string (sX t)) ∧ Rz w' b s (sN t) ∧ w.grownBy w' (some b) := by
  obtain ⟨hs, p, h1, h2, h3⟩ := h
  have := rfrstr_any b s p t.2 10 w h3 h1 hs
  rw [h2] at this
  refine this.mono ?_
  rintro y w' ⟨rfl, p', h4, h5, h6, h7⟩
  exact ⟨rfl, ⟨hs, p', h4, h5, h6⟩, h7⟩
theorem rzdone_any (b : Nat) (s : ByteArray) (t : Sr) (w : World) (h : Rz w b s t) :
    Calls Try.prog 36 #[.pointer (some ⟨b, 0, none⟩)] w fun y w' => y = .returned (.int .i64 (doneE t.1 t.2)) ∧ w.grownBy w' none := by
  obtain ⟨hs, p, h1, h2, h3⟩ := h
  have := rfdone_any b s p t.2 w h3 h1 hs
  rw [h2] at this
  exact this
theorem zvend9 {w w1 : World} {b q : Nat} {s : ByteArray} {t : Sr} {x : V} (y : V) (hR : Rz w1 b s t) (hV : Vb w1 q x) (hg : w.grownBy w1 (some b)) (hq : w.heap.size ≤ q) (hb : b ≠ q) :
    Vb (put39 w1 q y) q y ∧ Rz (put39 w1 q y) b s t ∧ w.grownBy (put39 w1 q y) (some b) := by
  have h := hV.put39 y
  exact ⟨h.1, hR.kept h.2 (by intro e; exact hb (Option.some.inj e)), grown_new hg h.2 (fun j e => by cases e; exact hq)⟩
theorem grown_dr9 (w : World) : w.grownBy w.drew none := ⟨rfl, rfl, rfl, Nat.le_refl _, fun _ _ _ => rfl⟩
theorem kp_put39 {S : Nat → Prop} (w : World) (q : Nat) (y : V) (h : S q) : Kp S w (put39 w q y) :=
  ((Kp.setCell w q 0 _ h).then (Kp.setCell _ q 1 _ h)).then (Kp.setCell _ q 2 _ h)

set_option maxRecDepth 100000 in
set_option maxHeartbeats 2000000 in
theorem rnext_any (b : Nat) (s : ByteArray) (t : Sr) (w : World) (h : Rz w b s t) :
    Calls Try.prog 53 #[.pointer (some ⟨b, 0, none⟩)] w fun y w' => y = .returned (.tuple #[(rvX t).val, .bool ((rvN t).2 == 0 && okC (rvX t))]) ∧ Rz w' b s (rvN t) ∧ w.grownBy w' (some b) := by
  have hga := World.grownBy_alloc w (.cells #[.int .i64 0, .int .i64 0, .string ⟨#[]⟩] 24) none
  have h0 := h.kept hga (by simp)
  have hV : Vb (w.alloc (.cells #[.int .i64 0, .int .i64 0, .string ⟨#[]⟩] 24)) w.heap.size ⟨0, 0, ⟨#[]⟩⟩ := Vb.new w ⟨0, 0, ⟨#[]⟩⟩
  have hb := h.lt
  have hN := nX_lt t 1
  have Hv : Hid (rvX t = if nX t 1 = 1 then ⟨1, wrap64 (nX (nN t 1) 8 : Int), mkB []⟩ else ⟨(nX t 1 : Int), 0, sX (nN t 1)⟩) := rfl
  have Hn : Hid (rvN t = if nX t 1 = 1 then nN (nN t 1) 8 else sN (nN t 1)) := rfl
  obtain ⟨X, HX⟩ : ∃ X, Hid (rvX t = X) := ⟨_, rfl⟩
  obtain ⟨Y, HY⟩ : ∃ Y, Hid (rvN t = Y) := ⟨_, rfl⟩
  rw [HX.out] at Hv ⊢
  rw [HY.out] at Hn ⊢
  have hc := rznum_any b s t 1 1 wid1 _ h0
  have hc2 := fun W (H : Rz W b s (nN t 1)) => rznum_any b s (nN t 1) 8 8 wid8 W H
  have hc3 := fun W (H : Rz W b s (nN t 1)) => rzstr_any b s (nN t 1) W H
  generalize nX t 1 = N at *
  generalize nN t 1 = t1 at *
  have hw := nat_i64 N (by omega)
  go_enter Try.func53, Try.ntmps53
  go_wp2_with fail
  refine hc.mono ?_
  rintro y w1 ⟨rfl, hR1, hg1⟩
  have hV1 := hV.kept hg1 (by simp; omega)
  have hg01 : w.grownBy w1 (some b) := grown_trans (grown_none9 hga) hg1 (.inl rfl)
  have hq1 := hV1.lt
  have hgb := World.grownBy_alloc w1 (.cells #[.int .i64 N, .int .i64 0, .string ⟨#[]⟩] 24) none
  have hR2 := hR1.kept hgb (by simp)
  have hV2 := hV1.kept hgb (by simp)
  have hM2 : Vb (w1.alloc (.cells #[.int .i64 N, .int .i64 0, .string ⟨#[]⟩] 24)) w1.heap.size ⟨N, 0, ⟨#[]⟩⟩ := Vb.new w1 ⟨N, 0, ⟨#[]⟩⟩
  have hg02 := grown_trans hg01 (grown_none9 (row := some b) hgb) (.inl rfl)
  have hb1 := hR1.lt
  obtain ⟨q, HQ⟩ : ∃ q, Hid (w.heap.size = q) := ⟨_, rfl⟩
  have hqq := HQ.out
  rw [hqq] at hV2 hq1
  have c0 := hM2.c0
  dsimp only at c0
  clear hc hV hV1 hga h0 hgb hR1 hg01 hg1
  go_upto_region 3 with fail
  generalize w1.alloc (.cells #[.int .i64 N, .int .i64 0, .string ⟨#[]⟩] 24) = W2 at *
  by_cases e1 : N = 1
  · subst e1
    rw [if_pos rfl] at Hv Hn
    go_wp2_with fail
    refine (hc2 _ hR2).mono ?_
    rintro y w3 ⟨rfl, hR3, hg3⟩
    have hV3 := hV2.kept hg3 (by simp; omega)
    have hM3 := hM2.kept hg3 (by simp; omega)
    have hg03 := grown_trans hg02 hg3 (.inl rfl)
    obtain ⟨mm, HM⟩ : ∃ mm : Int, Hid (wrap64 (nX t1 8 : Int) = mm) := ⟨_, rfl⟩
    obtain ⟨t3, HT⟩ : ∃ t3, Hid (nN t1 8 = t3) := ⟨_, rfl⟩
    rw [HT.out] at hR3 Hn
    rw [HM.out] at Hv
    have hmm := HM.out
    have hM0 := hM3.set1 mm
    have hsg := grown_set9 w3 w1.heap.size 1 (.int .i64 mm)
    have Q := hV3.kept hsg (by simp; omega)
    have R := hR3.kept hsg (by simp; omega)
    have G := grown_new hg03 hsg (fun j e => by cases e; omega)
    have z1 := hM3.fz 1
    have k1 := hM3.c1
    dsimp only at k1
    have hM : Vb (w3.setCell ⟨w1.heap.size, 1, none⟩ (.int .i64 mm)) w1.heap.size X := by rw [Hv.out]; exact hM0
    have hY : Hid (Y = t3) := Hn
    clear hV2 hV3 hM2 hM3 hM0 hR3 hR2 hg02 hg03 hsg c0 Hn
    go_upto_region 7 with fail
    generalize w3.setCell ⟨w1.heap.size, 1, none⟩ (.int .i64 mm) = W at *
    generalize w1.heap.size = m at *
    clear z1 k1 hmm Hv
    have hYY := hY.out
    subst hYY
    have hMc := hM
    clear hM
    obtain ⟨m0, m1, m2⟩ : W.cell? ⟨m, 0, none⟩ = some (.int .i64 X.k) ∧ W.cell? ⟨m, 1, none⟩ = some (.int .i64 X.n) ∧ W.cell? ⟨m, 2, none⟩ = some (.string X.s) := ⟨hMc.c0, hMc.c1, hMc.c2⟩
    have y0 := Q.c0; have y1 := Q.c1; have y2 := Q.c2
    have f0 := Q.fz 0; have f1 := Q.fz 1; have f2 := Q.fz 2
    dsimp only at y0 y1 y2
    have ce := R.ce
    have his := fun W' => ris_any9 X W'
    have nq : ¬ only q m := fun e => by unfold only at e; omega
    have nb : ¬ only q b := fun e => by unfold only at e; omega
    have Rd9 := R.kept (grown_dr9 W) (by simp)
    have Qd := Q.kept (grown_dr9 W) (by simp)
    have Gd := grown_trans G (grown_none9 (row := some b) (grown_dr9 W)) (.inl rfl)
    unfold V.val at his
    obtain ⟨er, HER⟩ : ∃ er, Hid (Y.2 = er) := ⟨_, rfl⟩
    rw [HER.out] at ce
    by_cases he : er = 0
    · subst he
      have hY2 : Hid ((Y.2 == 0) = true) := by show _ = _; rw [HER.out]; rfl
      refine wp_region_held_drew (S := fun W' => Kp (only q) W W') (by kernel_rfl) (Kp.drew _ _) (fun hHeld => ?_)
      refine take_at9 (i := 0) (d := 23) (v := ?_) rfl rfl (by kernel_rfl) (by kernel_rfl) (by kernel_rfl) (fun _ _ _ h => h) (Or.inl ⟨by rfl, ?_⟩) (by assumption) ?_
      rotate_left
      · intro W hSW
        try dsimp only at hSW
        have g0 := hSW.cell m0 nq
        have g1 := hSW.cell m1 nq
        have g2 := hSW.cell m2 nq
        have gE := hSW.cell ce nb
        go_simp
        try with_reducible rfl
      try simp only [Act.put, List.setIfInBounds_toArray, List.set_cons_zero, List.set_cons_succ]
      refine take_at9 (i := 1) (d := 24) (v := ?_) rfl rfl (by kernel_rfl) (by kernel_rfl) (by kernel_rfl) (fun _ _ _ h => h) (Or.inl ⟨by rfl, ?_⟩) (by assumption) ?_
      rotate_left
      · intro W hSW
        try dsimp only at hSW
        have g0 := hSW.cell m0 nq
        have g1 := hSW.cell m1 nq
        have g2 := hSW.cell m2 nq
        have gE := hSW.cell ce nb
        go_simp
        try with_reducible rfl
      try simp only [Act.put, List.setIfInBounds_toArray, List.set_cons_zero, List.set_cons_succ]
      refine take_at9 (i := 2) (d := 25) (v := ?_) rfl rfl (by kernel_rfl) (by kernel_rfl) (by kernel_rfl) (fun _ _ _ h => h) (Or.inl ⟨by rfl, ?_⟩) (by assumption) ?_
      rotate_left
      · intro W hSW
        try dsimp only at hSW
        have g0 := hSW.cell m0 nq
        have g1 := hSW.cell m1 nq
        have g2 := hSW.cell m2 nq
        have gE := hSW.cell ce nb
        go_simp
        try with_reducible rfl
      try simp only [Act.put, List.setIfInBounds_toArray, List.set_cons_zero, List.set_cons_succ]
      refine take_at9 (i := 3) (d := 26) (v := ?_) rfl rfl (by kernel_rfl) (by kernel_rfl) (by kernel_rfl) (fun _ _ _ h => h) (Or.inl ⟨by rfl, ?_⟩) (by assumption) ?_
      rotate_left
      · intro W hSW
        try dsimp only at hSW
        have g0 := hSW.cell m0 nq
        have g1 := hSW.cell m1 nq
        have g2 := hSW.cell m2 nq
        have gE := hSW.cell ce nb
        go_simp
        try with_reducible rfl
      try simp only [Act.put, List.setIfInBounds_toArray, List.set_cons_zero, List.set_cons_succ]
      refine take_at9 (i := 4) (d := 27) (v := ?_) rfl rfl (by kernel_rfl) (by kernel_rfl) (by kernel_rfl) (fun _ _ _ h => h) (Or.inl ⟨by rfl, ?_⟩) (by assumption) ?_
      rotate_left
      · intro W hSW
        try dsimp only at hSW
        have g0 := hSW.cell m0 nq
        have g1 := hSW.cell m1 nq
        have g2 := hSW.cell m2 nq
        have gE := hSW.cell ce nb
        go_simp
        try with_reducible rfl
      try simp only [Act.put, List.setIfInBounds_toArray, List.set_cons_zero, List.set_cons_succ]
      refine take_at9 (i := 5) (d := 28) (v := ?_) rfl rfl (by kernel_rfl) (by kernel_rfl) (by kernel_rfl) (fun _ _ _ h => h) (Or.inl ⟨by rfl, ?_⟩) (by assumption) ?_
      rotate_left
      · intro W hSW
        try dsimp only at hSW
        have g0 := hSW.cell m0 nq
        have g1 := hSW.cell m1 nq
        have g2 := hSW.cell m2 nq
        have gE := hSW.cell ce nb
        go_simp
        try with_reducible rfl
      try simp only [Act.put, List.setIfInBounds_toArray, List.set_cons_zero, List.set_cons_succ]
      refine take_at9 (i := 6) (d := 29) (v := ?_) rfl rfl (by kernel_rfl) (by kernel_rfl) (by kernel_rfl) (fun _ _ _ h => h) (Or.inl ⟨by rfl, ?_⟩) (by assumption) ?_
      rotate_left
      · intro W hSW
        try dsimp only at hSW
        have g0 := hSW.cell m0 nq
        have g1 := hSW.cell m1 nq
        have g2 := hSW.cell m2 nq
        have gE := hSW.cell ce nb
        go_simp
        try with_reducible rfl
      try simp only [Act.put, List.setIfInBounds_toArray, List.set_cons_zero, List.set_cons_succ]
      refine take_at9 (i := 7) (d := 30) (v := ?_) rfl rfl (by kernel_rfl) (by kernel_rfl) (by kernel_rfl) (fun _ _ _ h => h) (Or.inl ⟨by rfl, ?_⟩) (by assumption) ?_
      rotate_left
      · intro W hSW
        try dsimp only at hSW
        have g0 := hSW.cell m0 nq
        have g1 := hSW.cell m1 nq
        have g2 := hSW.cell m2 nq
        have gE := hSW.cell ce nb
        go_simp
        try with_reducible rfl
      try simp only [Act.put, List.setIfInBounds_toArray, List.set_cons_zero, List.set_cons_succ]
      refine wpAnyH_ready (rs := [8]) (by kernel_rfl) (by simp) ?_
      refine AllReadyH.cons rfl (fun K hK => ?_) ?_
      · go_simp
        go_wp2_with (go_at_call 44; refine (his _).mono ?_; rintro e w8 ⟨rfl, hg8⟩)
        refine hK.out _ _ ((Kp.drew _ _).then (Kp.ofN hg8 _)) (fun hHeld => ?_)
        clear hK K
        try simp only [Act.put, List.setIfInBounds_toArray, List.set_cons_zero, List.set_cons_succ]
        have Q8 := Qd.kept hg8 (by simp)
        have y0 := Q8.c0; have y1 := Q8.c1; have y2 := Q8.c2
        have f0 := Q8.fz 0; have f1 := Q8.fz 1; have f2 := Q8.fz 2
        dsimp only at y0 y1 y2
        refine take_at9 (i := 9) (d := 32) (v := ?_) rfl rfl (by kernel_rfl) (by kernel_rfl) (by kernel_rfl) (fun _ _ _ h => h) (Or.inl ⟨by rfl, ?_⟩) (by assumption) ?_
        rotate_left
        · intro W hSW
          try dsimp only at hSW
          have g0 := hSW.cell m0 nq
          have g1 := hSW.cell m1 nq
          have g2 := hSW.cell m2 nq
          have gE := hSW.cell ce nb
          go_simp
          try with_reducible rfl
        try simp only [Act.put, List.setIfInBounds_toArray, List.set_cons_zero, List.set_cons_succ]
        refine wpAnyH_ready (rs := [10]) (by kernel_rfl) (by simp) ?_
        refine AllReadyH.cons rfl (fun K hK => ?_) ?_
        · go_simp
          refine hK.out _ _ (((Kp.drew (only q) _).then (Kp.ofN hg8 _)).then (kp_put39 (S := only q) _ q X rfl)) (fun hHeld => ?_)
          clear hK K
          try simp only [Act.put, List.setIfInBounds_toArray, List.set_cons_zero, List.set_cons_succ]
          refine take_at9 (i := 11) (d := 3) (v := ?_) rfl rfl (by kernel_rfl) (by kernel_rfl) (by kernel_rfl) (fun _ _ _ h => h) (Or.inl ⟨by rfl, ?_⟩) (by assumption) ?_
          rotate_left
          · intro W hSW
            try dsimp only at hSW
            have g0 := hSW.cell m0 nq
            have g1 := hSW.cell m1 nq
            have g2 := hSW.cell m2 nq
            have gE := hSW.cell ce nb
            go_simp
            try with_reducible rfl
          try simp only [Act.put, List.setIfInBounds_toArray, List.set_cons_zero, List.set_cons_succ]
          refine wpAnyH_done (by kernel_rfl) ?_ _
          have hE := zvend9 X (Rd9.kept hg8 (by simp)) Q8 (grown_trans Gd (grown_none9 (row := some b) hg8) (.inl rfl)) (by omega) (by omega)
          go_wp2_with fail
          refine bodyPost_ret (results_vb rfl _ q _ X _ rfl rfl hE.1) rfl ?_
          exact ⟨by rw [hY2.out, Bool.true_and]; rfl, hE.2.1, hE.2.2⟩
        exact AllReadyH.nil
      exact AllReadyH.nil
    · have he' : (er == 0) = false := by simp [he]
      have hY2 : Hid ((Y.2 == 0) = false) := by show _ = _; rw [HER.out]; exact he'
      refine wp_region_held_drew (S := fun W' => Kp (only q) W W') (by kernel_rfl) (Kp.drew _ _) (fun hHeld => ?_)
      refine take_at9 (i := 0) (d := 23) (v := ?_) rfl rfl (by kernel_rfl) (by kernel_rfl) (by kernel_rfl) (fun _ _ _ h => h) (Or.inl ⟨by rfl, ?_⟩) (by assumption) ?_
      rotate_left
      · intro W hSW
        try dsimp only at hSW
        have g0 := hSW.cell m0 nq
        have g1 := hSW.cell m1 nq
        have g2 := hSW.cell m2 nq
        have gE := hSW.cell ce nb
        go_simp
        try with_reducible rfl
      try simp only [Act.put, List.setIfInBounds_toArray, List.set_cons_zero, List.set_cons_succ]
      refine take_at9 (i := 1) (d := 24) (v := ?_) rfl rfl (by kernel_rfl) (by kernel_rfl) (by kernel_rfl) (fun _ _ _ h => h) (Or.inl ⟨by rfl, ?_⟩) (by assumption) ?_
      rotate_left
      · intro W hSW
        try dsimp only at hSW
        have g0 := hSW.cell m0 nq
        have g1 := hSW.cell m1 nq
        have g2 := hSW.cell m2 nq
        have gE := hSW.cell ce nb
        go_simp
        try with_reducible rfl
      try simp only [Act.put, List.setIfInBounds_toArray, List.set_cons_zero, List.set_cons_succ]
      refine take_at9 (i := 2) (d := 25) (v := ?_) rfl rfl (by kernel_rfl) (by kernel_rfl) (by kernel_rfl) (fun _ _ _ h => h) (Or.inl ⟨by rfl, ?_⟩) (by assumption) ?_
      rotate_left
      · intro W hSW
        try dsimp only at hSW
        have g0 := hSW.cell m0 nq
        have g1 := hSW.cell m1 nq
        have g2 := hSW.cell m2 nq
        have gE := hSW.cell ce nb
        go_simp
        try with_reducible rfl
      try simp only [Act.put, List.setIfInBounds_toArray, List.set_cons_zero, List.set_cons_succ]
      refine take_at9 (i := 3) (d := 26) (v := ?_) rfl rfl (by kernel_rfl) (by kernel_rfl) (by kernel_rfl) (fun _ _ _ h => h) (Or.inl ⟨by rfl, ?_⟩) (by assumption) ?_
      rotate_left
      · intro W hSW
        try dsimp only at hSW
        have g0 := hSW.cell m0 nq
        have g1 := hSW.cell m1 nq
        have g2 := hSW.cell m2 nq
        have gE := hSW.cell ce nb
        go_simp
        try with_reducible rfl
      try simp only [Act.put, List.setIfInBounds_toArray, List.set_cons_zero, List.set_cons_succ]
      refine take_at9 (i := 4) (d := 27) (v := ?_) rfl rfl (by kernel_rfl) (by kernel_rfl) (by kernel_rfl) (fun _ _ _ h => h) (Or.inl ⟨by rfl, ?_⟩) (by assumption) ?_
      rotate_left
      · intro W hSW
        try dsimp only at hSW
        have g0 := hSW.cell m0 nq
        have g1 := hSW.cell m1 nq
        have g2 := hSW.cell m2 nq
        have gE := hSW.cell ce nb
        go_simp
        try with_reducible rfl
      try simp only [Act.put, List.setIfInBounds_toArray, List.set_cons_zero, List.set_cons_succ]
      refine take_at9 (i := 5) (d := 28) (v := ?_) rfl rfl (by kernel_rfl) (by kernel_rfl) (by kernel_rfl) (fun _ _ _ h => h) (Or.inl ⟨by rfl, ?_⟩) (by assumption) ?_
      rotate_left
      · intro W hSW
        try dsimp only at hSW
        have g0 := hSW.cell m0 nq
        have g1 := hSW.cell m1 nq
        have g2 := hSW.cell m2 nq
        have gE := hSW.cell ce nb
        go_simp
        try with_reducible rfl
      try simp only [Act.put, List.setIfInBounds_toArray, List.set_cons_zero, List.set_cons_succ]
      refine take_at9 (i := 6) (d := 29) (v := ?_) rfl rfl (by kernel_rfl) (by kernel_rfl) (by kernel_rfl) (fun _ _ _ h => h) (Or.inl ⟨by rfl, ?_⟩) (by assumption) ?_
      rotate_left
      · intro W hSW
        try dsimp only at hSW
        have g0 := hSW.cell m0 nq
        have g1 := hSW.cell m1 nq
        have g2 := hSW.cell m2 nq
        have gE := hSW.cell ce nb
        go_simp
        try with_reducible rfl
      try simp only [Act.put, List.setIfInBounds_toArray, List.set_cons_zero, List.set_cons_succ]
      refine take_at9 (i := 7) (d := 30) (v := undef) rfl rfl (by kernel_rfl) (by kernel_rfl) (by kernel_rfl) (fun _ _ _ h => h) (Or.inr ⟨by rfl, rfl⟩) (by assumption) ?_
      try simp only [Act.put, List.setIfInBounds_toArray, List.set_cons_zero, List.set_cons_succ]
      refine take_at9 (i := 8) (d := 31) (v := undef) rfl rfl (by kernel_rfl) (by kernel_rfl) (by kernel_rfl) (fun _ _ _ h => h) (Or.inr ⟨by rfl, rfl⟩) (by assumption) ?_
      try simp only [Act.put, List.setIfInBounds_toArray, List.set_cons_zero, List.set_cons_succ]
      refine take_at9 (i := 9) (d := 32) (v := ?_) rfl rfl (by kernel_rfl) (by kernel_rfl) (by kernel_rfl) (fun _ _ _ h => h) (Or.inl ⟨by rfl, ?_⟩) (by assumption) ?_
      rotate_left
      · intro W hSW
        try dsimp only at hSW
        have g0 := hSW.cell m0 nq
        have g1 := hSW.cell m1 nq
        have g2 := hSW.cell m2 nq
        have gE := hSW.cell ce nb
        go_simp
        try with_reducible rfl
      try simp only [Act.put, List.setIfInBounds_toArray, List.set_cons_zero, List.set_cons_succ]
      refine wpAnyH_ready (rs := [10]) (by kernel_rfl) (by simp) ?_
      refine AllReadyH.cons rfl (fun K hK => ?_) AllReadyH.nil
      go_simp
      refine hK.out _ _ ((Kp.drew (only q) _).then (kp_put39 (S := only q) _ q X rfl)) (fun hHeld => ?_)
      clear hK K
      try simp only [Act.put, List.setIfInBounds_toArray, List.set_cons_zero, List.set_cons_succ]
      refine take_at9 (i := 11) (d := 3) (v := ?_) rfl rfl (by kernel_rfl) (by kernel_rfl) (by kernel_rfl) (fun _ _ _ h => h) (Or.inl ⟨by rfl, ?_⟩) (by assumption) ?_
      rotate_left
      · intro W hSW
        try dsimp only at hSW
        have g0 := hSW.cell m0 nq
        have g1 := hSW.cell m1 nq
        have g2 := hSW.cell m2 nq
        have gE := hSW.cell ce nb
        go_simp
        try with_reducible rfl
      try simp only [Act.put, List.setIfInBounds_toArray, List.set_cons_zero, List.set_cons_succ]
      refine wpAnyH_done (by kernel_rfl) ?_ _
      have hE := zvend9 X Rd9 Qd Gd (by omega) (by omega)
      go_wp2_with fail
      refine bodyPost_ret (results_vb rfl _ q _ X _ rfl rfl hE.1) rfl ?_
      exact ⟨by rw [hY2.out, Bool.false_and]; rfl, hE.2.1, hE.2.2⟩
  · rw [if_neg e1] at Hv Hn
    have e1' : ((N : Int) == 1) = false := by rw [beq_eq_false_iff_ne]; omega
    go_wp2_with fail
    refine (hc3 _ hR2).mono ?_
    rintro y w3 ⟨rfl, hR3, hg3⟩
    have hV3 := hV2.kept hg3 (by simp; omega)
    have hM3 := hM2.kept hg3 (by simp; omega)
    have hg03 := grown_trans hg02 hg3 (.inl rfl)
    generalize sX t1 = SS at *
    obtain ⟨t3, HT⟩ : ∃ t3, Hid (sN t1 = t3) := ⟨_, rfl⟩
    rw [HT.out] at hR3 Hn
    have hM0 := hM3.set2 SS
    have hsg := grown_set9 w3 w1.heap.size 2 (.string SS)
    have Q := hV3.kept hsg (by simp; omega)
    have R := hR3.kept hsg (by simp; omega)
    have G := grown_new hg03 hsg (fun j e => by cases e; omega)
    have z1 := hM3.fz 2
    have k1 := hM3.c2
    dsimp only at k1
    have hM : Vb (w3.setCell ⟨w1.heap.size, 2, none⟩ (.string SS)) w1.heap.size X := by rw [Hv.out]; exact hM0
    have hY : Hid (Y = t3) := Hn
    clear hV2 hV3 hM2 hM3 hM0 hR3 hR2 hg02 hg03 hsg c0 Hn
    go_upto_region 7 with fail
    generalize w3.setCell ⟨w1.heap.size, 2, none⟩ (.string SS) = W at *
    generalize w1.heap.size = m at *
    clear z1 k1 Hv e1 e1'
    have hYY := hY.out
    subst hYY
    have hMc := hM
    clear hM
    obtain ⟨m0, m1, m2⟩ : W.cell? ⟨m, 0, none⟩ = some (.int .i64 X.k) ∧ W.cell? ⟨m, 1, none⟩ = some (.int .i64 X.n) ∧ W.cell? ⟨m, 2, none⟩ = some (.string X.s) := ⟨hMc.c0, hMc.c1, hMc.c2⟩
    have y0 := Q.c0; have y1 := Q.c1; have y2 := Q.c2
    have f0 := Q.fz 0; have f1 := Q.fz 1; have f2 := Q.fz 2
    dsimp only at y0 y1 y2
    have ce := R.ce
    have his := fun W' => ris_any9 X W'
    have nq : ¬ only q m := fun e => by unfold only at e; omega
    have nb : ¬ only q b := fun e => by unfold only at e; omega
    have Rd9 := R.kept (grown_dr9 W) (by simp)
    have Qd := Q.kept (grown_dr9 W) (by simp)
    have Gd := grown_trans G (grown_none9 (row := some b) (grown_dr9 W)) (.inl rfl)
    unfold V.val at his
    obtain ⟨er, HER⟩ : ∃ er, Hid (Y.2 = er) := ⟨_, rfl⟩
    rw [HER.out] at ce
    by_cases he : er = 0
    · subst he
      have hY2 : Hid ((Y.2 == 0) = true) := by show _ = _; rw [HER.out]; rfl
      refine wp_region_held_drew (S := fun W' => Kp (only q) W W') (by kernel_rfl) (Kp.drew _ _) (fun hHeld => ?_)
      refine take_at9 (i := 0) (d := 23) (v := ?_) rfl rfl (by kernel_rfl) (by kernel_rfl) (by kernel_rfl) (fun _ _ _ h => h) (Or.inl ⟨by rfl, ?_⟩) (by assumption) ?_
      rotate_left
      · intro W hSW
        try dsimp only at hSW
        have g0 := hSW.cell m0 nq
        have g1 := hSW.cell m1 nq
        have g2 := hSW.cell m2 nq
        have gE := hSW.cell ce nb
        go_simp
        try with_reducible rfl
      try simp only [Act.put, List.setIfInBounds_toArray, List.set_cons_zero, List.set_cons_succ]
      refine take_at9 (i := 1) (d := 24) (v := ?_) rfl rfl (by kernel_rfl) (by kernel_rfl) (by kernel_rfl) (fun _ _ _ h => h) (Or.inl ⟨by rfl, ?_⟩) (by assumption) ?_
      rotate_left
      · intro W hSW
        try dsimp only at hSW
        have g0 := hSW.cell m0 nq
        have g1 := hSW.cell m1 nq
        have g2 := hSW.cell m2 nq
        have gE := hSW.cell ce nb
        go_simp
        try with_reducible rfl
      try simp only [Act.put, List.setIfInBounds_toArray, List.set_cons_zero, List.set_cons_succ]
      refine take_at9 (i := 2) (d := 25) (v := ?_) rfl rfl (by kernel_rfl) (by kernel_rfl) (by kernel_rfl) (fun _ _ _ h => h) (Or.inl ⟨by rfl, ?_⟩) (by assumption) ?_
      rotate_left
      · intro W hSW
        try dsimp only at hSW
        have g0 := hSW.cell m0 nq
        have g1 := hSW.cell m1 nq
        have g2 := hSW.cell m2 nq
        have gE := hSW.cell ce nb
        go_simp
        try with_reducible rfl
      try simp only [Act.put, List.setIfInBounds_toArray, List.set_cons_zero, List.set_cons_succ]
      refine take_at9 (i := 3) (d := 26) (v := ?_) rfl rfl (by kernel_rfl) (by kernel_rfl) (by kernel_rfl) (fun _ _ _ h => h) (Or.inl ⟨by rfl, ?_⟩) (by assumption) ?_
      rotate_left
      · intro W hSW
        try dsimp only at hSW
        have g0 := hSW.cell m0 nq
        have g1 := hSW.cell m1 nq
        have g2 := hSW.cell m2 nq
        have gE := hSW.cell ce nb
        go_simp
        try with_reducible rfl
      try simp only [Act.put, List.setIfInBounds_toArray, List.set_cons_zero, List.set_cons_succ]
      refine take_at9 (i := 4) (d := 27) (v := ?_) rfl rfl (by kernel_rfl) (by kernel_rfl) (by kernel_rfl) (fun _ _ _ h => h) (Or.inl ⟨by rfl, ?_⟩) (by assumption) ?_
      rotate_left
      · intro W hSW
        try dsimp only at hSW
        have g0 := hSW.cell m0 nq
        have g1 := hSW.cell m1 nq
        have g2 := hSW.cell m2 nq
        have gE := hSW.cell ce nb
        go_simp
        try with_reducible rfl
      try simp only [Act.put, List.setIfInBounds_toArray, List.set_cons_zero, List.set_cons_succ]
      refine take_at9 (i := 5) (d := 28) (v := ?_) rfl rfl (by kernel_rfl) (by kernel_rfl) (by kernel_rfl) (fun _ _ _ h => h) (Or.inl ⟨by rfl, ?_⟩) (by assumption) ?_
      rotate_left
      · intro W hSW
        try dsimp only at hSW
        have g0 := hSW.cell m0 nq
        have g1 := hSW.cell m1 nq
        have g2 := hSW.cell m2 nq
        have gE := hSW.cell ce nb
        go_simp
        try with_reducible rfl
      try simp only [Act.put, List.setIfInBounds_toArray, List.set_cons_zero, List.set_cons_succ]
      refine take_at9 (i := 6) (d := 29) (v := ?_) rfl rfl (by kernel_rfl) (by kernel_rfl) (by kernel_rfl) (fun _ _ _ h => h) (Or.inl ⟨by rfl, ?_⟩) (by assumption) ?_
      rotate_left
      · intro W hSW
        try dsimp only at hSW
        have g0 := hSW.cell m0 nq
        have g1 := hSW.cell m1 nq
        have g2 := hSW.cell m2 nq
        have gE := hSW.cell ce nb
        go_simp
        try with_reducible rfl
      try simp only [Act.put, List.setIfInBounds_toArray, List.set_cons_zero, List.set_cons_succ]
      refine take_at9 (i := 7) (d := 30) (v := ?_) rfl rfl (by kernel_rfl) (by kernel_rfl) (by kernel_rfl) (fun _ _ _ h => h) (Or.inl ⟨by rfl, ?_⟩) (by assumption) ?_
      rotate_left
      · intro W hSW
        try dsimp only at hSW
        have g0 := hSW.cell m0 nq
        have g1 := hSW.cell m1 nq
        have g2 := hSW.cell m2 nq
        have gE := hSW.cell ce nb
        go_simp
        try with_reducible rfl
      try simp only [Act.put, List.setIfInBounds_toArray, List.set_cons_zero, List.set_cons_succ]
      refine wpAnyH_ready (rs := [8]) (by kernel_rfl) (by simp) ?_
      refine AllReadyH.cons rfl (fun K hK => ?_) ?_
      · go_simp
        go_wp2_with (go_at_call 44; refine (his _).mono ?_; rintro e w8 ⟨rfl, hg8⟩)
        refine hK.out _ _ ((Kp.drew _ _).then (Kp.ofN hg8 _)) (fun hHeld => ?_)
        clear hK K
        try simp only [Act.put, List.setIfInBounds_toArray, List.set_cons_zero, List.set_cons_succ]
        have Q8 := Qd.kept hg8 (by simp)
        have y0 := Q8.c0; have y1 := Q8.c1; have y2 := Q8.c2
        have f0 := Q8.fz 0; have f1 := Q8.fz 1; have f2 := Q8.fz 2
        dsimp only at y0 y1 y2
        refine take_at9 (i := 9) (d := 32) (v := ?_) rfl rfl (by kernel_rfl) (by kernel_rfl) (by kernel_rfl) (fun _ _ _ h => h) (Or.inl ⟨by rfl, ?_⟩) (by assumption) ?_
        rotate_left
        · intro W hSW
          try dsimp only at hSW
          have g0 := hSW.cell m0 nq
          have g1 := hSW.cell m1 nq
          have g2 := hSW.cell m2 nq
          have gE := hSW.cell ce nb
          go_simp
          try with_reducible rfl
        try simp only [Act.put, List.setIfInBounds_toArray, List.set_cons_zero, List.set_cons_succ]
        refine wpAnyH_ready (rs := [10]) (by kernel_rfl) (by simp) ?_
        refine AllReadyH.cons rfl (fun K hK => ?_) ?_
        · go_simp
          refine hK.out _ _ (((Kp.drew (only q) _).then (Kp.ofN hg8 _)).then (kp_put39 (S := only q) _ q X rfl)) (fun hHeld => ?_)
          clear hK K
          try simp only [Act.put, List.setIfInBounds_toArray, List.set_cons_zero, List.set_cons_succ]
          refine take_at9 (i := 11) (d := 3) (v := ?_) rfl rfl (by kernel_rfl) (by kernel_rfl) (by kernel_rfl) (fun _ _ _ h => h) (Or.inl ⟨by rfl, ?_⟩) (by assumption) ?_
          rotate_left
          · intro W hSW
            try dsimp only at hSW
            have g0 := hSW.cell m0 nq
            have g1 := hSW.cell m1 nq
            have g2 := hSW.cell m2 nq
            have gE := hSW.cell ce nb
            go_simp
            try with_reducible rfl
          try simp only [Act.put, List.setIfInBounds_toArray, List.set_cons_zero, List.set_cons_succ]
          refine wpAnyH_done (by kernel_rfl) ?_ _
          have hE := zvend9 X (Rd9.kept hg8 (by simp)) Q8 (grown_trans Gd (grown_none9 (row := some b) hg8) (.inl rfl)) (by omega) (by omega)
          go_wp2_with fail
          refine bodyPost_ret (results_vb rfl _ q _ X _ rfl rfl hE.1) rfl ?_
          exact ⟨by rw [hY2.out, Bool.true_and]; rfl, hE.2.1, hE.2.2⟩
        exact AllReadyH.nil
      exact AllReadyH.nil
    · have he' : (er == 0) = false := by simp [he]
      have hY2 : Hid ((Y.2 == 0) = false) := by show _ = _; rw [HER.out]; exact he'
      refine wp_region_held_drew (S := fun W' => Kp (only q) W W') (by kernel_rfl) (Kp.drew _ _) (fun hHeld => ?_)
      refine take_at9 (i := 0) (d := 23) (v := ?_) rfl rfl (by kernel_rfl) (by kernel_rfl) (by kernel_rfl) (fun _ _ _ h => h) (Or.inl ⟨by rfl, ?_⟩) (by assumption) ?_
      rotate_left
      · intro W hSW
        try dsimp only at hSW
        have g0 := hSW.cell m0 nq
        have g1 := hSW.cell m1 nq
        have g2 := hSW.cell m2 nq
        have gE := hSW.cell ce nb
        go_simp
        try with_reducible rfl
      try simp only [Act.put, List.setIfInBounds_toArray, List.set_cons_zero, List.set_cons_succ]
      refine take_at9 (i := 1) (d := 24) (v := ?_) rfl rfl (by kernel_rfl) (by kernel_rfl) (by kernel_rfl) (fun _ _ _ h => h) (Or.inl ⟨by rfl, ?_⟩) (by assumption) ?_
      rotate_left
      · intro W hSW
        try dsimp only at hSW
        have g0 := hSW.cell m0 nq
        have g1 := hSW.cell m1 nq
        have g2 := hSW.cell m2 nq
        have gE := hSW.cell ce nb
        go_simp
        try with_reducible rfl
      try simp only [Act.put, List.setIfInBounds_toArray, List.set_cons_zero, List.set_cons_succ]
      refine take_at9 (i := 2) (d := 25) (v := ?_) rfl rfl (by kernel_rfl) (by kernel_rfl) (by kernel_rfl) (fun _ _ _ h => h) (Or.inl ⟨by rfl, ?_⟩) (by assumption) ?_
      rotate_left
      · intro W hSW
        try dsimp only at hSW
        have g0 := hSW.cell m0 nq
        have g1 := hSW.cell m1 nq
        have g2 := hSW.cell m2 nq
        have gE := hSW.cell ce nb
        go_simp
        try with_reducible rfl
      try simp only [Act.put, List.setIfInBounds_toArray, List.set_cons_zero, List.set_cons_succ]
      refine take_at9 (i := 3) (d := 26) (v := ?_) rfl rfl (by kernel_rfl) (by kernel_rfl) (by kernel_rfl) (fun _ _ _ h => h) (Or.inl ⟨by rfl, ?_⟩) (by assumption) ?_
      rotate_left
      · intro W hSW
        try dsimp only at hSW
        have g0 := hSW.cell m0 nq
        have g1 := hSW.cell m1 nq
        have g2 := hSW.cell m2 nq
        have gE := hSW.cell ce nb
        go_simp
        try with_reducible rfl
      try simp only [Act.put, List.setIfInBounds_toArray, List.set_cons_zero, List.set_cons_succ]
      refine take_at9 (i := 4) (d := 27) (v := ?_) rfl rfl (by kernel_rfl) (by kernel_rfl) (by kernel_rfl) (fun _ _ _ h => h) (Or.inl ⟨by rfl, ?_⟩) (by assumption) ?_
      rotate_left
      · intro W hSW
        try dsimp only at hSW
        have g0 := hSW.cell m0 nq
        have g1 := hSW.cell m1 nq
        have g2 := hSW.cell m2 nq
        have gE := hSW.cell ce nb
        go_simp
        try with_reducible rfl
      try simp only [Act.put, List.setIfInBounds_toArray, List.set_cons_zero, List.set_cons_succ]
      refine take_at9 (i := 5) (d := 28) (v := ?_) rfl rfl (by kernel_rfl) (by kernel_rfl) (by kernel_rfl) (fun _ _ _ h => h) (Or.inl ⟨by rfl, ?_⟩) (by assumption) ?_
      rotate_left
      · intro W hSW
        try dsimp only at hSW
        have g0 := hSW.cell m0 nq
        have g1 := hSW.cell m1 nq
        have g2 := hSW.cell m2 nq
        have gE := hSW.cell ce nb
        go_simp
        try with_reducible rfl
      try simp only [Act.put, List.setIfInBounds_toArray, List.set_cons_zero, List.set_cons_succ]
      refine take_at9 (i := 6) (d := 29) (v := ?_) rfl rfl (by kernel_rfl) (by kernel_rfl) (by kernel_rfl) (fun _ _ _ h => h) (Or.inl ⟨by rfl, ?_⟩) (by assumption) ?_
      rotate_left
      · intro W hSW
        try dsimp only at hSW
        have g0 := hSW.cell m0 nq
        have g1 := hSW.cell m1 nq
        have g2 := hSW.cell m2 nq
        have gE := hSW.cell ce nb
        go_simp
        try with_reducible rfl
      try simp only [Act.put, List.setIfInBounds_toArray, List.set_cons_zero, List.set_cons_succ]
      refine take_at9 (i := 7) (d := 30) (v := undef) rfl rfl (by kernel_rfl) (by kernel_rfl) (by kernel_rfl) (fun _ _ _ h => h) (Or.inr ⟨by rfl, rfl⟩) (by assumption) ?_
      try simp only [Act.put, List.setIfInBounds_toArray, List.set_cons_zero, List.set_cons_succ]
      refine take_at9 (i := 8) (d := 31) (v := undef) rfl rfl (by kernel_rfl) (by kernel_rfl) (by kernel_rfl) (fun _ _ _ h => h) (Or.inr ⟨by rfl, rfl⟩) (by assumption) ?_
      try simp only [Act.put, List.setIfInBounds_toArray, List.set_cons_zero, List.set_cons_succ]
      refine take_at9 (i := 9) (d := 32) (v := ?_) rfl rfl (by kernel_rfl) (by kernel_rfl) (by kernel_rfl) (fun _ _ _ h => h) (Or.inl ⟨by rfl, ?_⟩) (by assumption) ?_
      rotate_left
      · intro W hSW
        try dsimp only at hSW
        have g0 := hSW.cell m0 nq
        have g1 := hSW.cell m1 nq
        have g2 := hSW.cell m2 nq
        have gE := hSW.cell ce nb
        go_simp
        try with_reducible rfl
      try simp only [Act.put, List.setIfInBounds_toArray, List.set_cons_zero, List.set_cons_succ]
      refine wpAnyH_ready (rs := [10]) (by kernel_rfl) (by simp) ?_
      refine AllReadyH.cons rfl (fun K hK => ?_) AllReadyH.nil
      go_simp
      refine hK.out _ _ ((Kp.drew (only q) _).then (kp_put39 (S := only q) _ q X rfl)) (fun hHeld => ?_)
      clear hK K
      try simp only [Act.put, List.setIfInBounds_toArray, List.set_cons_zero, List.set_cons_succ]
      refine take_at9 (i := 11) (d := 3) (v := ?_) rfl rfl (by kernel_rfl) (by kernel_rfl) (by kernel_rfl) (fun _ _ _ h => h) (Or.inl ⟨by rfl, ?_⟩) (by assumption) ?_
      rotate_left
      · intro W hSW
        try dsimp only at hSW
        have g0 := hSW.cell m0 nq
        have g1 := hSW.cell m1 nq
        have g2 := hSW.cell m2 nq
        have gE := hSW.cell ce nb
        go_simp
        try with_reducible rfl
      try simp only [Act.put, List.setIfInBounds_toArray, List.set_cons_zero, List.set_cons_succ]
      refine wpAnyH_done (by kernel_rfl) ?_ _
      have hE := zvend9 X Rd9 Qd Gd (by omega) (by omega)
      go_wp2_with fail
      refine bodyPost_ret (results_vb rfl _ q _ X _ rfl rfl hE.1) rfl ?_
      exact ⟨by rw [hY2.out, Bool.false_and]; rfl, hE.2.1, hE.2.2⟩
end Go.Proofs.Ytamgnpmkmlhadaa
