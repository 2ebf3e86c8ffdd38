/- Contracts, over the turned program: an inner node that is read. Conditions: those that each theorem states. -/
import Derived.Test.YtponhibiomcidaaDoorNRdB
namespace Go.Proofs.YtponhibiomcidaaDoor
open Go Go.RowKit
set_option linter.unusedVariables false

theorem set_nextG {α : Type} (pre : List α) (z : α) (m : Nat) (x : α) : (pre ++ List.replicate (m + 1) z).set pre.length x = (pre ++ [x]) ++ List.replicate m z := by
  rw [List.set_append_right _ _ (Nat.le_refl _), Nat.sub_self, List.replicate_succ, List.set_cons_zero, List.append_assoc]
  rfl
set_option maxRecDepth 100000 in
set_option maxHeartbeats 1500000 in
theorem readInner_any (b : Nat) (c : UInt8) (l : List UInt8) (w : World) (h : Rd w b (mkB (c :: l)) 0) (hl : l.length ≤ 1000) :
    Calls Tryd.prog 31 #[.pointer (some ⟨b, 0, none⟩)] w fun e w' => ∃ a m q a' m' q', e = .returned (.agg #[.bool false, .slice none 0 0, .slice a m q, .slice a' m' q']) ∧ Ow Value.string 9 w' w.heap.size (.slice a m q) (ndK (sNum (mkB l, 0) 2) c.toNat) ∧ Ow (Value.int .i64) 3 w' w.heap.size (.slice a' m' q') ((gNum (mkB l, 0) 2 : Int) :: ndD (sNum (mkB l, 0) 2) c.toNat) ∧ Rd w' b (ndS (sNum (mkB l, 0) 2) c.toNat).1 (ndS (sNum (mkB l, 0) 2) c.toNat).2 ∧ Kp (only b) w w' := by
  have hK0 : Kp none' w (w.alloc (.cells #[.bool false, .slice none 0 0, .slice none 0 0, .slice none 0 0] 27)) := Kp.alloc _ _ _
  have n2 := Nb.new w false (.slice none 0 0) (.slice none 0 0) (.slice none 0 0)
  have hR0 := h.keptK hK0 (fun h => h)
  have hbl := h.lt
  obtain ⟨N, HN⟩ : ∃ N, Hid (c.toNat = N) := ⟨_, rfl⟩
  have HN256 : Hid (N < 256) := by rw [← HN.out]; exact UInt8.toNat_lt c
  obtain ⟨r, Hr⟩ : ∃ r : Rst, Hid ((mkB l, 0) = r) := ⟨(mkB l, 0), hide rfl⟩
  have HSZ : Hid (r.1.size ≤ 1000) := by rw [← Hr.out]; show (mkB l).size ≤ _; rw [mkB_size]; exact hl
  have HNum : Hid (∀ W : World, Rd W b (mkB (c :: l)) 0 → Calls Tryd.prog 29 #[.pointer (some ⟨b, 0, none⟩), .int .i64 1] W fun y w' => y = .returned (.int .u64 (N : Int)) ∧ Rd w' b r.1 r.2 ∧ Kp (only b) W w') := by
    intro W hW
    refine (rnum1_cons b c l W hW (by unfold maxLen; simp; omega)).mono ?_
    rintro y w' ⟨rfl, h1, h2⟩
    refine ⟨by rw [HN.out], ?_, Kp.ofGrown h2 (fun k hk _ => by cases hk; rfl)⟩
    rw [← Hr.out]
    exact h1
  rw [HN.out, Hr.out]
  obtain ⟨d0, HD⟩ : ∃ q, Hid (gNum r 2 = q) := ⟨_, rfl⟩
  obtain ⟨r1, Hr1⟩ : ∃ q, Hid (sNum r 2 = q) := ⟨_, rfl⟩
  rw [HD.out, Hr1.out]
  clear h hl
  go_enter Tryd.func31, Tryd.ntmps31
  go_upto_region 1 with fail
  generalize w.alloc (.cells #[.bool false, .slice none 0 0, .slice none 0 0, .slice none 0 0] 27) = w0 at *
  have HLT0 : Hid (w.heap.size < w0.heap.size) := n2.lt
  have hN256 : N < 256 := HN256.out
  go_upto_region 2 with (first
    | (go_at_call 29; refine (HNum.out _ hR0).mono ?_; rintro e w1 ⟨rfl, hR, hk1⟩)
    | fail)
  clear hR0 HNum
  replace n2 := n2.kept hk1 (fun e => by unfold only at e; omega)
  have HLT : Hid (b < w.heap.size ∧ w.heap.size < w1.heap.size) := by have := hk1.size; have := HLT0.out; show _ ∧ _; omega
  have hKa : Kp (only b) w w1 := hK0.nThen hk1
  obtain ⟨M, HM⟩ : ∃ M, Hid (1 + N = M) := ⟨_, rfl⟩
  have HMS : Hid (∀ W : World, ∃ wa, (Instr.makeSlice 24 (.int .i64 (N : Int)) (.int .i64 (N : Int))).run Tryd.prog W = .ok (.slice (some ⟨W.heap.size, 0, none⟩) N N) wa ∧ Ow Value.string 9 wa W.heap.size (.slice (some ⟨W.heap.size, 0, none⟩) N N) (List.replicate N ⟨#[]⟩) ∧ Kp none' W wa) := fun W => make_one Value.string ⟨#[]⟩ 24 9 16 Tryd.underlying24 infoTx (by omega) rfl W N (by have := HN256.out; omega)
  have HMI : Hid (∀ W : World, ∃ wa, (Instr.makeSlice 25 (.int .i64 (M : Int)) (.int .i64 (M : Int))).run Tryd.prog W = .ok (.slice (some ⟨W.heap.size, 0, none⟩) M M) wa ∧ Ow (Value.int .i64) 3 wa W.heap.size (.slice (some ⟨W.heap.size, 0, none⟩) M M) (List.replicate M 0) ∧ Kp none' W wa) := fun W => make_one (Value.int .i64) 0 25 3 8 Tryd.underlying25 infoI (by omega) rfl W M (by have := HN256.out; have := HM.out; omega)
  have hMw : IntKind.i64.wrap (1 + (N : Int)) = (M : Int) := by rw [← HM.out, IntKind.wrap_i64]; omega
  replace n2 := n2.kept (Kp.drew none' w1) (fun h => h)
  replace hR := hR.keptK (Kp.drew none' w1) (fun h => h)
  go_cut [4] from 9 to 42 (fun t4 W => ∃ g4 gS gI, t4 = .pointer (some ⟨g4, 0, none⟩) ∧ Nb W g4 false (.slice none 0 0) (.slice (some ⟨gS, 0, none⟩) N N) (.slice (some ⟨gI, 0, none⟩) M M) ∧ Nb W w.heap.size false (.slice none 0 0) (.slice none 0 0) (.slice none 0 0) ∧ Ow Value.string 9 W w1.heap.size (.slice (some ⟨gS, 0, none⟩) N N) (List.replicate N ⟨#[]⟩) ∧ Ow (Value.int .i64) 3 W w1.heap.size (.slice (some ⟨gI, 0, none⟩) M M) (List.replicate M 0) ∧ Rd W b r.1 r.2 ∧ g4 ≠ gS ∧ g4 ≠ gI ∧ gS ≠ gI ∧ w1.heap.size ≤ g4 ∧ Kp none' w1 W)
  case rest =>
    obtain ⟨g4, gS, gI, rfl, n4, n2, oS, oI, hR, hn4S, hn4I, hSI, hb4, hKc⟩ := hcut
    have HBN : Hid (b < w.heap.size ∧ w.heap.size < w1.heap.size ∧ w1.heap.size ≤ g4) := ⟨HLT.out.1, HLT.out.2, hb4⟩
    have HGE : Hid (w1.heap.size ≤ gS ∧ w1.heap.size ≤ gI ∧ w1.heap.size ≤ g4) := ⟨oS.lt1.1, oI.lt1.1, hb4⟩
    have HKA : Hid (Kp (only b) w wc) := hKa.thenN hKc
    have HSZ1 : Hid (r1.1.size ≤ 1000) := by rw [← Hr1.out]; exact Nat.le_trans (rawS_size _ _ _) HSZ.out
    have hd0 : d0 < 65536 := by rw [← HD.out]; exact gNum_lt _
    have hdw : IntKind.i64.wrap (d0 : Int) = (d0 : Int) := by rw [IntKind.wrap_i64]; omega
    have HNum2 : Hid (∀ W : World, Rd W b r.1 r.2 → Calls Tryd.prog 29 #[.pointer (some ⟨b, 0, none⟩), .int .i64 2] W fun y w' => y = .returned (.int .u64 (d0 : Int)) ∧ Rd w' b r1.1 r1.2 ∧ Kp (only b) W w') := by
      intro W hW
      refine (rnum_any b r.1 r.2 2 W hW (by have := HSZ.out; unfold maxLen; omega)).mono ?_
      rintro y w' ⟨rfl, h1, h2⟩
      rw [← HD.out, ← Hr1.out]
      exact ⟨rfl, h1, Kp.ofGrown h2 (fun k hk _ => by cases hk; rfl)⟩
    have HD0 : Hid ((List.replicate M (0 : Int)).set 0 (d0 : Int) = (d0 : Int) :: List.replicate N 0) := by rw [← HM.out, Nat.add_comm, List.replicate_succ]; rfl
    have f3c : ∀ W : World, Kp (fun k => k = b ∨ k = gS ∨ k = gI) wc W → W.cell? ⟨g4, 3, none⟩ = some (.slice (some ⟨gI, 0, none⟩) M M) := fun W hk => (n4.kept hk (fun e => by rcases e with e | e | e; (have := HBN.out; omega); exact hn4S e; exact hn4I e)).c3
    have hM0 : (0 : Int) < (M : Int) := by have := HM.out; omega
    have hM0n : 0 < M := by have := HM.out; omega
    clear HMS HMI hMw hK0 hk1 hKa hKc
    go_upto_region 3 with fail
    replace n4 := n4.kept (Kp.drew none' _) (fun h => h)
    replace n2 := n2.kept (Kp.drew none' _) (fun h => h)
    replace oS := oS.keptN (Kp.drew none' _)
    replace oI := oI.keptN (Kp.drew none' _)
    replace hR := hR.keptK (Kp.drew none' _) (fun h => h)
    refine wp_region_held_drew (S := fun W => Kp (fun k => k = b ∨ k = gS ∨ k = gI) wc W) (by kernel_rfl) (Kp.drew _ _) (fun hHeld => ?_)
    refine take_at (i := 0) (d := 15) (v := ?_) rfl rfl (by kernel_rfl) (by kernel_rfl) (by kernel_rfl) (fun _ _ _ h => h) (Or.inl ⟨by rfl, ?_⟩) (by assumption) ?_
    rotate_left
    · intro W hSW
      try dsimp only at hSW
      have q3 := f3c W hSW
      go_simp
      try with_reducible rfl
    try simp only [Act.put, List.setIfInBounds_toArray, List.set_cons_zero, List.set_cons_succ]
    refine take_at (i := 1) (d := 16) (v := ?_) rfl rfl (by kernel_rfl) (by kernel_rfl) (by kernel_rfl) (fun _ _ _ h => h) (Or.inl ⟨by rfl, ?_⟩) (by assumption) ?_
    rotate_left
    · intro W hSW
      try dsimp only at hSW
      have q3 := f3c W hSW
      go_simp
      try with_reducible rfl
    try simp only [Act.put, List.setIfInBounds_toArray, List.set_cons_zero, List.set_cons_succ]
    refine take_at (i := 2) (d := 17) (v := ?_) rfl rfl (by kernel_rfl) (by kernel_rfl) (by kernel_rfl) (fun _ _ _ h => h) (Or.inl ⟨by rfl, ?_⟩) (by assumption) ?_
    rotate_left
    · intro W hSW
      try dsimp only at hSW
      have q3 := f3c W hSW
      go_simp
      try with_reducible rfl
    try simp only [Act.put, List.setIfInBounds_toArray, List.set_cons_zero, List.set_cons_succ]
    refine wpAnyH_ready (rs := [3]) (by kernel_rfl) (by simp) ?_
    refine AllReadyH.cons rfl (fun K hK => ?_) ?_
    · go_simp
      go_wp2_with (go_at_call 29; refine (HNum2.out _ hR).mono ?_; clear hR; rintro e wx3 ⟨rfl, hR, hk3⟩)
      replace n4 := n4.kept hk3 (fun e => by unfold only at e; have := HBN.out; omega)
      replace n2 := n2.kept hk3 (fun e => by unfold only at e; have := HBN.out; omega)
      replace oS := oS.kept hk3 (fun z hz e => by have hg := Option.some.inj hz; unfold only at e; have := HBN.out; have := oS.lt1; simp only at hg; omega)
      replace oI := oI.kept hk3 (fun z hz e => by have hg := Option.some.inj hz; unfold only at e; have := HBN.out; have := oI.lt1; simp only at hg; omega)
      refine hK.out _ _ (hHeld.then (hk3.mono (fun k _ e => .inl e))) (fun hHeld => ?_)
      clear hK K
      try simp only [Act.put, List.setIfInBounds_toArray, List.set_cons_zero, List.set_cons_succ]
      refine take_at (i := 4) (d := 19) (v := ?_) rfl rfl (by kernel_rfl) (by kernel_rfl) (by kernel_rfl) (fun _ _ _ h => h) (Or.inl ⟨by rfl, ?_⟩) (by assumption) ?_
      rotate_left
      · intro W hSW
        try dsimp only at hSW
        go_simp
        try with_reducible rfl
      try simp only [Act.put, List.setIfInBounds_toArray, List.set_cons_zero, List.set_cons_succ]
      refine take_at (i := 5) (d := 20) (v := ?_) rfl rfl (by kernel_rfl) (by kernel_rfl) (by kernel_rfl) (fun _ _ _ h => h) (Or.inl ⟨by rfl, ?_⟩) (by assumption) ?_
      rotate_left
      · intro W hSW
        try dsimp only at hSW
        go_simp
        try with_reducible rfl
      try simp only [Act.put, List.setIfInBounds_toArray, List.set_cons_zero, List.set_cons_succ]
      refine wpAnyH_ready (rs := [6]) (by kernel_rfl) (by simp) ?_
      refine AllReadyH.cons rfl (fun K hK => ?_) ?_
      · refine nstep_store_i (by rfl) (by rfl) (.tmp 20) (.tmp 19) (by rfl) gI 0 (by rfl) (d0 : Int) (by rfl) oI (by simp; have := HM.out; omega) ?_
        clear oI
        intro wx6 oI hk6
        replace n4 := n4.kept hk6 (fun e => hn4I e)
        replace n2 := n2.kept hk6 (fun e => by unfold only at e; have := HBN.out; have := HGE.out; omega)
        replace oS := oS.kept hk6 (fun z hz e => by have hg := Option.some.inj hz; unfold only at e; simp only at hg; exact hSI (hg.trans e))
        replace hR := hR.keptK hk6 (fun e => by unfold only at e; have := HBN.out; have := HGE.out; omega)
        refine hK.out _ _ (hHeld.then (hk6.mono (fun k _ e => .inr (.inr e)))) (fun hHeld => ?_)
        clear hK K
        try simp only [Act.put, List.setIfInBounds_toArray, List.set_cons_zero, List.set_cons_succ]
        refine wpAnyH_done (by kernel_rfl) ?_ _
        generalize wx6 = wd at *
        have f2 : ∀ W : World, Kp (fun k => k = b ∨ k = gS ∨ k = gI) wd W → W.cell? ⟨g4, 2, none⟩ = some (.slice (some ⟨gS, 0, none⟩) N N) := fun W hk => (n4.kept hk (fun e => by rcases e with e | e | e; (have := HBN.out; have := HGE.out; omega); exact hn4S e; exact hn4I e)).c2
        have f3 : ∀ W : World, Kp (fun k => k = b ∨ k = gS ∨ k = gI) wd W → W.cell? ⟨g4, 3, none⟩ = some (.slice (some ⟨gI, 0, none⟩) M M) := fun W hk => (n4.kept hk (fun e => by rcases e with e | e | e; (have := HBN.out; have := HGE.out; omega); exact hn4S e; exact hn4I e)).c3
        rw [HD0.out] at oI
        have HKc := hide (HKA.out.trans hHeld (fun _ _ h => h) (fun k hk e => by rcases e with e | e | e; exact e; (exact absurd hk (by have := HGE.out; have := HBN.out; omega)); (exact absurd hk (by have := HGE.out; have := HBN.out; omega))))
        clear hHeld hdw hd0
        have c2 := n4.c2
        go_wp2
        go_loopw [5, 24] (fun _ t wr => ∃ j : Nat, j ≤ N ∧ t = .int .i64 j ∧ Nb wr g4 false (.slice none 0 0) (.slice (some ⟨gS, 0, none⟩) N N) (.slice (some ⟨gI, 0, none⟩) M M) ∧ Nb wr w.heap.size false (.slice none 0 0) (.slice none 0 0) (.slice none 0 0) ∧ Ow Value.string 9 wr w1.heap.size (.slice (some ⟨gS, 0, none⟩) N N) (ndK r1 j ++ List.replicate (N - j) ⟨#[]⟩) ∧ Ow (Value.int .i64) 3 wr w1.heap.size (.slice (some ⟨gI, 0, none⟩) M M) (((d0 : Int) :: ndD r1 j) ++ List.replicate (N - j) 0) ∧ Rd wr b (ndS r1 j).1 (ndS r1 j).2 ∧ Kp (fun k => k = b ∨ k = gS ∨ k = gI) wd wr) (fun _ t _ => N - (intOf t).toNat)
        case atStart => exact ⟨0, Nat.zero_le _, rfl, n4, n2, by simpa [ndK] using oS, by simpa [ndD] using oI, hR, Kp.refl _ _⟩
        case round =>
          clear n4 n2 oS oI hR c2
          obtain ⟨j, hj, rfl, n4, n2, oS, oI, hR, hK⟩ := hrel
          by_cases hlt : j < N
          · obtain ⟨m, hm⟩ : ∃ m, N - j = m + 1 := ⟨N - j - 1, by omega⟩
            have Hm : Hid (N - (j + 1) = m) := by show _ = _; omega
            rw [hm] at oS oI
            have hlt' : (j : Int) < (N : Int) := by omega
            obtain ⟨s, Hs⟩ : ∃ s, Hid (ndS r1 j = s) := ⟨_, rfl⟩
            have HSs : Hid (s.1.size ≤ maxLen) := by rw [← Hs.out]; have := ndS_size r1 j; have := HSZ1.out; show _ ≤ _; unfold maxLen; omega
            rw [Hs.out] at hR
            obtain ⟨K1, HKK⟩ : ∃ q, Hid (gStr s 32 = q) := ⟨_, rfl⟩
            obtain ⟨s1, Hs1⟩ : ∃ q, Hid (sStr s 32 = q) := ⟨_, rfl⟩
            obtain ⟨D1, HDD⟩ : ∃ q, Hid (gNum s1 2 = q) := ⟨_, rfl⟩
            obtain ⟨s2, Hs2⟩ : ∃ q, Hid (sNum s1 2 = q) := ⟨_, rfl⟩
            have HStr : Hid (∀ W : World, Rd W b s.1 s.2 → Calls Tryd.prog 63 #[.pointer (some ⟨b, 0, none⟩), .int .i64 32] W fun y w' => y = .returned (.string K1) ∧ Rd w' b s1.1 s1.2 ∧ Kp (only b) W w') := by
              intro W hW
              refine (rstr_any b s.1 s.2 32 W hW HSs.out).mono ?_
              rintro y w' ⟨rfl, h1, h2⟩
              rw [← HKK.out, ← Hs1.out]
              exact ⟨rfl, h1, Kp.ofGrown h2 (fun k hk _ => by cases hk; rfl)⟩
            have HNum3 : Hid (∀ W : World, Rd W b s1.1 s1.2 → Calls Tryd.prog 29 #[.pointer (some ⟨b, 0, none⟩), .int .i64 2] W fun y w' => y = .returned (.int .u64 (D1 : Int)) ∧ Rd w' b s2.1 s2.2 ∧ Kp (only b) W w') := by
              intro W hW
              refine (rnum_any b s1.1 s1.2 2 W hW (by rw [← Hs1.out]; exact Nat.le_trans (strS_size _ _ _) HSs.out)).mono ?_
              rintro y w' ⟨rfl, h1, h2⟩
              rw [← HDD.out, ← Hs2.out]
              exact ⟨rfl, h1, Kp.ofGrown h2 (fun k hk _ => by cases hk; rfl)⟩
            have hD1 : D1 < 65536 := by rw [← HDD.out]; exact gNum_lt _
            have hD1w : IntKind.i64.wrap (D1 : Int) = (D1 : Int) := by rw [IntKind.wrap_i64]; omega
            have HSn : Hid (ndS r1 (j + 1) = s2) := by show sNum (sStr (ndS r1 j) 32) 2 = _; rw [Hs.out, Hs1.out, Hs2.out]
            have HGS : Hid (ndK r1 (j + 1) ++ List.replicate (N - (j + 1)) ⟨#[]⟩ = (ndK r1 j ++ [K1]) ++ List.replicate m ⟨#[]⟩) := by show (ndK r1 j ++ [gStr (ndS r1 j) 32]) ++ _ = _; rw [Hs.out, HKK.out, Hm.out]
            have HGI : Hid (((d0 : Int) :: ndD r1 (j + 1)) ++ List.replicate (N - (j + 1)) 0 = (((d0 : Int) :: ndD r1 j) ++ [(D1 : Int)]) ++ List.replicate m 0) := by show ((d0 : Int) :: (ndD r1 j ++ [(gNum (sStr (ndS r1 j) 32) 2 : Int)])) ++ _ = _; rw [Hs.out, Hs1.out, HDD.out, Hm.out]; simp
            obtain ⟨k1, HK1⟩ : ∃ k1, Hid (j + 1 = k1) := ⟨_, rfl⟩
            have hk1w : IntKind.i64.wrap ((j : Int) + 1) = (k1 : Int) := by rw [← HK1.out, IntKind.wrap_i64]; omega
            have hk1i : (k1 : Int) < (M : Int) := by have := HK1.out; have := HM.out; omega
            have hk1n : k1 < M := by have := HK1.out; have := HM.out; omega
            have HES : Hid ((ndK r1 j ++ List.replicate (m + 1) (⟨#[]⟩ : ByteArray)).set j K1 = (ndK r1 j ++ [K1]) ++ List.replicate m (⟨#[]⟩ : ByteArray)) := by have := set_nextG (ndK r1 j) (⟨#[]⟩ : ByteArray) m K1; rw [ndK_len] at this; exact this
            have HEI : Hid ((((d0 : Int) :: ndD r1 j) ++ List.replicate (m + 1) 0).set k1 (D1 : Int) = (((d0 : Int) :: ndD r1 j) ++ [(D1 : Int)]) ++ List.replicate m 0) := by have := set_nextG ((d0 : Int) :: ndD r1 j) 0 m (D1 : Int); rw [List.length_cons, ndD_len, HK1.out] at this; exact this
            go_upto_region 7 with fail
            replace n4 := n4.kept (Kp.drew none' _) (fun h => h)
            replace n2 := n2.kept (Kp.drew none' _) (fun h => h)
            replace oS := oS.keptN (Kp.drew none' _)
            replace oI := oI.keptN (Kp.drew none' _)
            replace hR := hR.keptK (Kp.drew none' _) (fun h => h)
            refine wp_region_held_drew (S := fun W => Kp (fun k => k = b ∨ k = gS ∨ k = gI) wd W) (by kernel_rfl) (hK.thenN (Kp.drew none' _)) (fun hHeld => ?_)
            refine take_at (i := 0) (d := 27) (v := ?_) rfl rfl (by kernel_rfl) (by kernel_rfl) (by kernel_rfl) (fun _ _ _ h => h) (Or.inl ⟨by rfl, ?_⟩) (by assumption) ?_
            rotate_left
            · intro W hSW
              try dsimp only at hSW
              have q2 := f2 W hSW
              have q3 := f3 W hSW
              go_simp
              try with_reducible rfl
            try simp only [Act.put, List.setIfInBounds_toArray, List.set_cons_zero, List.set_cons_succ]
            refine take_at (i := 1) (d := 28) (v := ?_) rfl rfl (by kernel_rfl) (by kernel_rfl) (by kernel_rfl) (fun _ _ _ h => h) (Or.inl ⟨by rfl, ?_⟩) (by assumption) ?_
            rotate_left
            · intro W hSW
              try dsimp only at hSW
              have q2 := f2 W hSW
              have q3 := f3 W hSW
              go_simp
              try with_reducible rfl
            try simp only [Act.put, List.setIfInBounds_toArray, List.set_cons_zero, List.set_cons_succ]
            refine take_at (i := 2) (d := 29) (v := ?_) rfl rfl (by kernel_rfl) (by kernel_rfl) (by kernel_rfl) (fun _ _ _ h => h) (Or.inl ⟨by rfl, ?_⟩) (by assumption) ?_
            rotate_left
            · intro W hSW
              try dsimp only at hSW
              have q2 := f2 W hSW
              have q3 := f3 W hSW
              go_simp
              try with_reducible rfl
            try simp only [Act.put, List.setIfInBounds_toArray, List.set_cons_zero, List.set_cons_succ]
            refine take_at (i := 3) (d := 30) (v := ?_) rfl rfl (by kernel_rfl) (by kernel_rfl) (by kernel_rfl) (fun _ _ _ h => h) (Or.inl ⟨by rfl, ?_⟩) (by assumption) ?_
            rotate_left
            · intro W hSW
              try dsimp only at hSW
              have q2 := f2 W hSW
              have q3 := f3 W hSW
              go_simp
              try with_reducible rfl
            try simp only [Act.put, List.setIfInBounds_toArray, List.set_cons_zero, List.set_cons_succ]
            refine wpAnyH_ready (rs := [4]) (by kernel_rfl) (by simp) ?_
            refine AllReadyH.cons rfl (fun K hK => ?_) ?_
            · go_simp
              go_wp2_with (go_at_call 63; refine (HStr.out _ hR).mono ?_; clear hR; rintro e wx4 ⟨rfl, hR, hk4⟩)
              replace n4 := n4.kept hk4 (fun e => by unfold only at e; have := HBN.out; omega)
              replace n2 := n2.kept hk4 (fun e => by unfold only at e; have := HBN.out; omega)
              replace oS := oS.kept hk4 (fun z hz e => by have hg := Option.some.inj hz; unfold only at e; have := HBN.out; have := oS.lt1; simp only at hg; omega)
              replace oI := oI.kept hk4 (fun z hz e => by have hg := Option.some.inj hz; unfold only at e; have := HBN.out; have := oI.lt1; simp only at hg; omega)
              refine hK.out _ _ (hHeld.then (hk4.mono (fun k _ e => .inl e))) (fun hHeld => ?_)
              clear hK K
              try simp only [Act.put, List.setIfInBounds_toArray, List.set_cons_zero, List.set_cons_succ]
              refine take_at (i := 5) (d := 32) (v := ?_) rfl rfl (by kernel_rfl) (by kernel_rfl) (by kernel_rfl) (fun _ _ _ h => h) (Or.inl ⟨by rfl, ?_⟩) (by assumption) ?_
              rotate_left
              · intro W hSW
                try dsimp only at hSW
                go_simp
                try with_reducible rfl
              try simp only [Act.put, List.setIfInBounds_toArray, List.set_cons_zero, List.set_cons_succ]
              refine wpAnyH_ready (rs := [6]) (by kernel_rfl) (by simp) ?_
              refine AllReadyH.cons rfl (fun K hK => ?_) ?_
              · refine nstep_store_s (by rfl) (by rfl) (.tmp 32) (.tmp 31) (by rfl) gS j (by rfl) K1 (by rfl) oS (by rw [List.length_append, ndK_len, List.length_replicate]; omega) ?_
                clear oS
                intro wx6 oS hk6
                replace n4 := n4.kept hk6 (fun e => hn4S e)
                replace n2 := n2.kept hk6 (fun e => by unfold only at e; have := HBN.out; have := HGE.out; omega)
                replace oI := oI.kept hk6 (fun z hz e => by have hg := Option.some.inj hz; unfold only at e; simp only at hg; exact hSI ((hg.trans e).symm))
                replace hR := hR.keptK hk6 (fun e => by unfold only at e; have := HBN.out; have := HGE.out; omega)
                refine hK.out _ _ (hHeld.then (hk6.mono (fun k _ e => .inr (.inl e)))) (fun hHeld => ?_)
                clear hK K
                try simp only [Act.put, List.setIfInBounds_toArray, List.set_cons_zero, List.set_cons_succ]
                refine wpAnyH_done (by kernel_rfl) ?_ _
                go_upto_region 8 with fail
                replace n4 := n4.kept (Kp.drew none' _) (fun h => h)
                replace n2 := n2.kept (Kp.drew none' _) (fun h => h)
                replace oS := oS.keptN (Kp.drew none' _)
                replace oI := oI.keptN (Kp.drew none' _)
                replace hR := hR.keptK (Kp.drew none' _) (fun h => h)
                refine wp_region_held_drew (S := fun W => Kp (fun k => k = b ∨ k = gS ∨ k = gI) wd W) (by kernel_rfl) (hHeld.thenN (Kp.drew none' _)) (fun hHeld => ?_)
                refine take_at (i := 0) (d := 33) (v := ?_) rfl rfl (by kernel_rfl) (by kernel_rfl) (by kernel_rfl) (fun _ _ _ h => h) (Or.inl ⟨by rfl, ?_⟩) (by assumption) ?_
                rotate_left
                · intro W hSW
                  try dsimp only at hSW
                  have q2 := f2 W hSW
                  have q3 := f3 W hSW
                  go_simp
                  try with_reducible rfl
                try simp only [Act.put, List.setIfInBounds_toArray, List.set_cons_zero, List.set_cons_succ]
                refine take_at (i := 1) (d := 34) (v := ?_) rfl rfl (by kernel_rfl) (by kernel_rfl) (by kernel_rfl) (fun _ _ _ h => h) (Or.inl ⟨by rfl, ?_⟩) (by assumption) ?_
                rotate_left
                · intro W hSW
                  try dsimp only at hSW
                  have q2 := f2 W hSW
                  have q3 := f3 W hSW
                  go_simp
                  try with_reducible rfl
                try simp only [Act.put, List.setIfInBounds_toArray, List.set_cons_zero, List.set_cons_succ]
                refine take_at (i := 2) (d := 35) (v := ?_) rfl rfl (by kernel_rfl) (by kernel_rfl) (by kernel_rfl) (fun _ _ _ h => h) (Or.inl ⟨by rfl, ?_⟩) (by assumption) ?_
                rotate_left
                · intro W hSW
                  try dsimp only at hSW
                  have q2 := f2 W hSW
                  have q3 := f3 W hSW
                  go_simp
                  try with_reducible rfl
                try simp only [Act.put, List.setIfInBounds_toArray, List.set_cons_zero, List.set_cons_succ]
                refine take_at (i := 3) (d := 36) (v := ?_) rfl rfl (by kernel_rfl) (by kernel_rfl) (by kernel_rfl) (fun _ _ _ h => h) (Or.inl ⟨by rfl, ?_⟩) (by assumption) ?_
                rotate_left
                · intro W hSW
                  try dsimp only at hSW
                  have q2 := f2 W hSW
                  have q3 := f3 W hSW
                  go_simp
                  try with_reducible rfl
                try simp only [Act.put, List.setIfInBounds_toArray, List.set_cons_zero, List.set_cons_succ]
                refine take_at (i := 4) (d := 37) (v := ?_) rfl rfl (by kernel_rfl) (by kernel_rfl) (by kernel_rfl) (fun _ _ _ h => h) (Or.inl ⟨by rfl, ?_⟩) (by assumption) ?_
                rotate_left
                · intro W hSW
                  try dsimp only at hSW
                  have q2 := f2 W hSW
                  have q3 := f3 W hSW
                  go_simp
                  try with_reducible rfl
                try simp only [Act.put, List.setIfInBounds_toArray, List.set_cons_zero, List.set_cons_succ]
                refine wpAnyH_ready (rs := [5]) (by kernel_rfl) (by simp) ?_
                refine AllReadyH.cons rfl (fun K hK => ?_) ?_
                · go_simp
                  go_wp2_with (go_at_call 29; refine (HNum3.out _ hR).mono ?_; clear hR; rintro e wx5 ⟨rfl, hR, hk5⟩)
                  replace n4 := n4.kept hk5 (fun e => by unfold only at e; have := HBN.out; omega)
                  replace n2 := n2.kept hk5 (fun e => by unfold only at e; have := HBN.out; omega)
                  replace oS := oS.kept hk5 (fun z hz e => by have hg := Option.some.inj hz; unfold only at e; have := HBN.out; have := oS.lt1; simp only at hg; omega)
                  replace oI := oI.kept hk5 (fun z hz e => by have hg := Option.some.inj hz; unfold only at e; have := HBN.out; have := oI.lt1; simp only at hg; omega)
                  refine hK.out _ _ (hHeld.then (hk5.mono (fun k _ e => .inl e))) (fun hHeld => ?_)
                  clear hK K
                  try simp only [Act.put, List.setIfInBounds_toArray, List.set_cons_zero, List.set_cons_succ]
                  refine take_at (i := 6) (d := 39) (v := ?_) rfl rfl (by kernel_rfl) (by kernel_rfl) (by kernel_rfl) (fun _ _ _ h => h) (Or.inl ⟨by rfl, ?_⟩) (by assumption) ?_
                  rotate_left
                  · intro W hSW
                    try dsimp only at hSW
                    go_simp
                    try with_reducible rfl
                  try simp only [Act.put, List.setIfInBounds_toArray, List.set_cons_zero, List.set_cons_succ]
                  refine take_at (i := 7) (d := 40) (v := ?_) rfl rfl (by kernel_rfl) (by kernel_rfl) (by kernel_rfl) (fun _ _ _ h => h) (Or.inl ⟨by rfl, ?_⟩) (by assumption) ?_
                  rotate_left
                  · intro W hSW
                    try dsimp only at hSW
                    go_simp
                    try with_reducible rfl
                  try simp only [Act.put, List.setIfInBounds_toArray, List.set_cons_zero, List.set_cons_succ]
                  refine wpAnyH_ready (rs := [8]) (by kernel_rfl) (by simp) ?_
                  refine AllReadyH.cons rfl (fun K hK => ?_) ?_
                  · refine nstep_store_i (by rfl) (by rfl) (.tmp 40) (.tmp 39) (by rfl) gI k1 (by rfl) (D1 : Int) (by rfl) oI (by have := HK1.out; rw [List.length_append, List.length_cons, ndD_len, List.length_replicate]; omega) ?_
                    clear oI
                    intro wx8 oI hk8
                    replace n4 := n4.kept hk8 (fun e => hn4I e)
                    replace n2 := n2.kept hk8 (fun e => by unfold only at e; have := HBN.out; have := HGE.out; omega)
                    replace oS := oS.kept hk8 (fun z hz e => by have hg := Option.some.inj hz; unfold only at e; simp only at hg; exact hSI (hg.trans e))
                    replace hR := hR.keptK hk8 (fun e => by unfold only at e; have := HBN.out; have := HGE.out; omega)
                    refine hK.out _ _ (hHeld.then (hk8.mono (fun k _ e => .inr (.inr e)))) (fun hHeld => ?_)
                    clear hK K
                    try simp only [Act.put, List.setIfInBounds_toArray, List.set_cons_zero, List.set_cons_succ]
                    refine wpAnyH_done (by kernel_rfl) ?_ _
                    go_wp2
                    go_roundw
                    case rel =>
                      refine ⟨j + 1, by omega, by have := HK1.out; go_num, n4, n2, ?_, ?_, ?_, hHeld⟩
                      · rw [HGS.out]; rw [HES.out] at oS; exact oS
                      · rw [HGI.out]; rw [HEI.out] at oI; exact oI
                      · rw [HSn.out]; exact hR
                    case measure => have := HK1.out; simp [intOf]; omega
                  exact AllReadyH.nil
                exact AllReadyH.nil
              exact AllReadyH.nil
            exact AllReadyH.nil
          · have hlt' : ¬ (j : Int) < (N : Int) := by omega
            have hje : j = N := by omega
            subst hje
            rw [Nat.sub_self, List.replicate_zero, List.append_nil] at oS oI
            have c0 := n4.c0
            have c1 := n4.c1
            have c2 := n4.c2
            have c3 := n4.c3
            go_wp2_with (first
              | (refine nwpList_store_nb' rfl rfl (.tmp 2) (.tmp 42) rfl w.heap.size rfl rfl n2 ?_; clear n2; intro w7 n2 hk7)
              | fail)
            refine bodyPost_ret (results_nb1 rfl _ w.heap.size _ rfl n2) rfl ?_
            refine ⟨_, _, _, _, _, _, rfl, (oS.kept hk7 (fun z hz e => by have hg := Option.some.inj hz; unfold only at e; have := oS.lt1; have := HLT.out; simp only at hg; omega)).mem (by have := HLT.out; omega), (oI.kept hk7 (fun z hz e => by have hg := Option.some.inj hz; unfold only at e; have := oI.lt1; have := HLT.out; simp only at hg; omega)).mem (by have := HLT.out; omega), hR.keptK hk7 (fun e => by unfold only at e; have := HLT.out; omega), ?_⟩
            exact (HKc.out.trans hK (fun _ _ h => h) (fun k hk e => by rcases e with e | e | e; exact e; (exact absurd hk (by have := HGE.out; have := HLT.out; omega)); (exact absurd hk (by have := HGE.out; have := HLT.out; omega)))).trans hk7 (fun _ _ h => h) (fun k hk e => absurd hk (by unfold only at e; omega))
      exact AllReadyH.nil
    exact AllReadyH.nil
  case first =>
    refine wp_region_held_drew (S := fun W => Kp none' w1 W) (by kernel_rfl) (Kp.drew _ _) (fun hHeld => ?_)
    refine take_at (i := 0) (d := 9) (v := ?_) rfl rfl (by kernel_rfl) (by kernel_rfl) (by kernel_rfl) (fun _ _ _ h => h) (Or.inl ⟨by rfl, ?_⟩) (by assumption) ?_
    rotate_left
    · intro W hSW
      try dsimp only at hSW
      go_simp
      try with_reducible rfl
    try simp only [Act.put, List.setIfInBounds_toArray, List.set_cons_zero, List.set_cons_succ]
    refine take_at (i := 2) (d := 11) (v := ?_) rfl rfl (by kernel_rfl) (by kernel_rfl) (by kernel_rfl) (fun _ _ _ h => h) (Or.inl ⟨by rfl, ?_⟩) (by assumption) ?_
    rotate_left
    · intro W hSW
      try dsimp only at hSW
      go_simp
      try with_reducible rfl
    try simp only [Act.put, List.setIfInBounds_toArray, List.set_cons_zero, List.set_cons_succ]
    refine take_at (i := 3) (d := 12) (v := ?_) rfl rfl (by kernel_rfl) (by kernel_rfl) (by kernel_rfl) (fun _ _ _ h => h) (Or.inl ⟨by rfl, ?_⟩) (by assumption) ?_
    rotate_left
    · intro W hSW
      try dsimp only at hSW
      go_simp
      try with_reducible rfl
    try simp only [Act.put, List.setIfInBounds_toArray, List.set_cons_zero, List.set_cons_succ]
    refine wpAnyH_ready (rs := [1, 4, 6]) (by kernel_rfl) (by simp) ?_
    refine AllReadyH.cons rfl (fun K hK => ?_) ?_
    · obtain ⟨wx1, hmk1, oS, hk1⟩ := HMS.out _
      skip
      refine nstep_make (d := 10) (by rfl) (by rfl) (.tmp 9) 24 (by rfl) _ (by rfl) hmk1 ?_
      clear hmk1
      have hbS := Nat.le_trans hHeld.size oS.lt1.1
      replace hR := hR.keptK hk1 (fun h => h)
      replace n2 := n2.kept hk1 (fun h => h)
      refine hK.out _ _ (hHeld.thenN hk1) (fun hHeld => ?_)
      clear hK K
      try simp only [Act.put, List.setIfInBounds_toArray, List.set_cons_zero, List.set_cons_succ]
      refine wpAnyH_ready (rs := [4, 6]) (by kernel_rfl) (by simp) ?_
      refine AllReadyH.cons rfl (fun K hK => ?_) ?_
      · obtain ⟨wx4, hmk4, oI, hk4⟩ := HMI.out _
        skip
        refine nstep_make (d := 13) (by rfl) (by rfl) (.tmp 12) 25 (by rfl) _ (by rfl) hmk4 ?_
        clear hmk4
        have hbI := Nat.le_trans hHeld.size oI.lt1.1
        have hne := Nat.ne_of_lt (Nat.lt_of_lt_of_le oS.lt1.2 oI.lt1.1)
        replace hR := hR.keptK hk4 (fun h => h)
        replace n2 := n2.kept hk4 (fun h => h)
        replace oS := oS.keptN hk4
        refine hK.out _ _ (hHeld.thenN hk4) (fun hHeld => ?_)
        clear hK K
        try simp only [Act.put, List.setIfInBounds_toArray, List.set_cons_zero, List.set_cons_succ]
        refine take_at (i := 5) (d := 14) (v := ?_) rfl rfl (by kernel_rfl) (by kernel_rfl) (by kernel_rfl) (fun _ _ _ h => h) (Or.inl ⟨by rfl, ?_⟩) (by assumption) ?_
        rotate_left
        · intro W hSW
          try dsimp only at hSW
          go_simp
          try with_reducible rfl
        try simp only [Act.put, List.setIfInBounds_toArray, List.set_cons_zero, List.set_cons_succ]
        refine wpAnyH_ready (rs := [6]) (by kernel_rfl) (by simp) ?_
        refine AllReadyH.cons rfl (fun K hK => ?_) ?_
        · refine nstep_alloc_nb (d := 4) (by rfl) (by rfl) (by rfl) ?_
          intro wx6 g4 n4 hk6 hg6
          have hb4 := Nat.le_trans hHeld.size hg6
          have hn4S := Nat.ne_of_gt (Nat.lt_of_lt_of_le oS.lt1.2 hg6)
          have hn4I := Nat.ne_of_gt (Nat.lt_of_lt_of_le oI.lt1.2 hg6)
          replace hR := hR.keptK hk6 (fun h => h)
          replace n2 := n2.kept hk6 (fun h => h)
          replace oS := oS.keptN hk6
          replace oI := oI.keptN hk6
          refine hK.out _ _ (hHeld.thenN hk6) (fun hHeld => ?_)
          clear hK K
          try simp only [Act.put, List.setIfInBounds_toArray, List.set_cons_zero, List.set_cons_succ]
          refine wpAnyH_ready (rs := [7]) (by kernel_rfl) (by simp) ?_
          refine AllReadyH.cons rfl (fun K hK => ?_) ?_
          · refine nstep_store_nb (by rfl) (by rfl) (.tmp 4) (.tmp 14) (by rfl) g4 (by rfl) (by rfl) n4 ?_
            clear n4
            intro wx7 n4 hk7
            replace oS := oS.kept hk7 (fun z hz e => by have hg := Option.some.inj hz; unfold only at e; exact hn4S (e.symm.trans hg.symm))
            replace oI := oI.kept hk7 (fun z hz e => by have hg := Option.some.inj hz; unfold only at e; exact hn4I (e.symm.trans hg.symm))
            replace hR := hR.keptK hk7 (fun e => by unfold only at e; have := HLT.out; omega)
            replace n2 := nb_far n2 (by have := HLT.out; omega) hk7
            refine hK.out _ _ (kp_far hHeld hb4 hk7) (fun hHeld => ?_)
            clear hK K
            try simp only [Act.put, List.setIfInBounds_toArray, List.set_cons_zero, List.set_cons_succ]
            refine wpAnyH_done (by kernel_rfl) ?_ _
            try go_wp2
            go_meet
            exact ⟨g4, _, _, rfl, n4, n2, oS.mem hbS, oI.mem hbI, hR, hn4S, hn4I, by first | exact hne | exact hne.symm | exact fun e => hne e.symm, hb4, hHeld⟩
          exact AllReadyH.nil
        exact AllReadyH.nil
      refine AllReadyH.cons rfl (fun K hK => ?_) ?_
      · refine nstep_alloc_nb (d := 4) (by rfl) (by rfl) (by rfl) ?_
        intro wx6 g4 n4 hk6 hg6
        have hb4 := Nat.le_trans hHeld.size hg6
        have hn4S := Nat.ne_of_gt (Nat.lt_of_lt_of_le oS.lt1.2 hg6)
        replace hR := hR.keptK hk6 (fun h => h)
        replace n2 := n2.kept hk6 (fun h => h)
        replace oS := oS.keptN hk6
        refine hK.out _ _ (hHeld.thenN hk6) (fun hHeld => ?_)
        clear hK K
        try simp only [Act.put, List.setIfInBounds_toArray, List.set_cons_zero, List.set_cons_succ]
        refine wpAnyH_ready (rs := [4]) (by kernel_rfl) (by simp) ?_
        refine AllReadyH.cons rfl (fun K hK => ?_) ?_
        · obtain ⟨wx4, hmk4, oI, hk4⟩ := HMI.out _
          skip
          refine nstep_make (d := 13) (by rfl) (by rfl) (.tmp 12) 25 (by rfl) _ (by rfl) hmk4 ?_
          clear hmk4
          have hbI := Nat.le_trans hHeld.size oI.lt1.1
          have hne := Nat.ne_of_lt (Nat.lt_of_lt_of_le oS.lt1.2 oI.lt1.1)
          have hn4I := Nat.ne_of_lt (Nat.lt_of_lt_of_le n4.lt oI.lt1.1)
          replace hR := hR.keptK hk4 (fun h => h)
          replace n2 := n2.kept hk4 (fun h => h)
          replace oS := oS.keptN hk4
          replace n4 := n4.kept hk4 (fun h => h)
          refine hK.out _ _ (hHeld.thenN hk4) (fun hHeld => ?_)
          clear hK K
          try simp only [Act.put, List.setIfInBounds_toArray, List.set_cons_zero, List.set_cons_succ]
          refine take_at (i := 5) (d := 14) (v := ?_) rfl rfl (by kernel_rfl) (by kernel_rfl) (by kernel_rfl) (fun _ _ _ h => h) (Or.inl ⟨by rfl, ?_⟩) (by assumption) ?_
          rotate_left
          · intro W hSW
            try dsimp only at hSW
            go_simp
            try with_reducible rfl
          try simp only [Act.put, List.setIfInBounds_toArray, List.set_cons_zero, List.set_cons_succ]
          refine wpAnyH_ready (rs := [7]) (by kernel_rfl) (by simp) ?_
          refine AllReadyH.cons rfl (fun K hK => ?_) ?_
          · refine nstep_store_nb (by rfl) (by rfl) (.tmp 4) (.tmp 14) (by rfl) g4 (by rfl) (by rfl) n4 ?_
            clear n4
            intro wx7 n4 hk7
            replace oS := oS.kept hk7 (fun z hz e => by have hg := Option.some.inj hz; unfold only at e; exact hn4S (e.symm.trans hg.symm))
            replace oI := oI.kept hk7 (fun z hz e => by have hg := Option.some.inj hz; unfold only at e; exact hn4I (e.symm.trans hg.symm))
            replace hR := hR.keptK hk7 (fun e => by unfold only at e; have := HLT.out; omega)
            replace n2 := nb_far n2 (by have := HLT.out; omega) hk7
            refine hK.out _ _ (kp_far hHeld hb4 hk7) (fun hHeld => ?_)
            clear hK K
            try simp only [Act.put, List.setIfInBounds_toArray, List.set_cons_zero, List.set_cons_succ]
            refine wpAnyH_done (by kernel_rfl) ?_ _
            try go_wp2
            go_meet
            exact ⟨g4, _, _, rfl, n4, n2, oS.mem hbS, oI.mem hbI, hR, hn4S, hn4I, by first | exact hne | exact hne.symm | exact fun e => hne e.symm, hb4, hHeld⟩
          exact AllReadyH.nil
        exact AllReadyH.nil
      exact AllReadyH.nil
    refine AllReadyH.cons rfl (fun K hK => ?_) ?_
    · obtain ⟨wx4, hmk4, oI, hk4⟩ := HMI.out _
      skip
      refine nstep_make (d := 13) (by rfl) (by rfl) (.tmp 12) 25 (by rfl) _ (by rfl) hmk4 ?_
      clear hmk4
      have hbI := Nat.le_trans hHeld.size oI.lt1.1
      replace hR := hR.keptK hk4 (fun h => h)
      replace n2 := n2.kept hk4 (fun h => h)
      refine hK.out _ _ (hHeld.thenN hk4) (fun hHeld => ?_)
      clear hK K
      try simp only [Act.put, List.setIfInBounds_toArray, List.set_cons_zero, List.set_cons_succ]
      refine wpAnyH_ready (rs := [1, 6]) (by kernel_rfl) (by simp) ?_
      refine AllReadyH.cons rfl (fun K hK => ?_) ?_
      · obtain ⟨wx1, hmk1, oS, hk1⟩ := HMS.out _
        skip
        refine nstep_make (d := 10) (by rfl) (by rfl) (.tmp 9) 24 (by rfl) _ (by rfl) hmk1 ?_
        clear hmk1
        have hbS := Nat.le_trans hHeld.size oS.lt1.1
        have hne := Nat.ne_of_lt (Nat.lt_of_lt_of_le oI.lt1.2 oS.lt1.1)
        replace hR := hR.keptK hk1 (fun h => h)
        replace n2 := n2.kept hk1 (fun h => h)
        replace oI := oI.keptN hk1
        refine hK.out _ _ (hHeld.thenN hk1) (fun hHeld => ?_)
        clear hK K
        try simp only [Act.put, List.setIfInBounds_toArray, List.set_cons_zero, List.set_cons_succ]
        refine take_at (i := 5) (d := 14) (v := ?_) rfl rfl (by kernel_rfl) (by kernel_rfl) (by kernel_rfl) (fun _ _ _ h => h) (Or.inl ⟨by rfl, ?_⟩) (by assumption) ?_
        rotate_left
        · intro W hSW
          try dsimp only at hSW
          go_simp
          try with_reducible rfl
        try simp only [Act.put, List.setIfInBounds_toArray, List.set_cons_zero, List.set_cons_succ]
        refine wpAnyH_ready (rs := [6]) (by kernel_rfl) (by simp) ?_
        refine AllReadyH.cons rfl (fun K hK => ?_) ?_
        · refine nstep_alloc_nb (d := 4) (by rfl) (by rfl) (by rfl) ?_
          intro wx6 g4 n4 hk6 hg6
          have hb4 := Nat.le_trans hHeld.size hg6
          have hn4S := Nat.ne_of_gt (Nat.lt_of_lt_of_le oS.lt1.2 hg6)
          have hn4I := Nat.ne_of_gt (Nat.lt_of_lt_of_le oI.lt1.2 hg6)
          replace hR := hR.keptK hk6 (fun h => h)
          replace n2 := n2.kept hk6 (fun h => h)
          replace oS := oS.keptN hk6
          replace oI := oI.keptN hk6
          refine hK.out _ _ (hHeld.thenN hk6) (fun hHeld => ?_)
          clear hK K
          try simp only [Act.put, List.setIfInBounds_toArray, List.set_cons_zero, List.set_cons_succ]
          refine wpAnyH_ready (rs := [7]) (by kernel_rfl) (by simp) ?_
          refine AllReadyH.cons rfl (fun K hK => ?_) ?_
          · refine nstep_store_nb (by rfl) (by rfl) (.tmp 4) (.tmp 14) (by rfl) g4 (by rfl) (by rfl) n4 ?_
            clear n4
            intro wx7 n4 hk7
            replace oS := oS.kept hk7 (fun z hz e => by have hg := Option.some.inj hz; unfold only at e; exact hn4S (e.symm.trans hg.symm))
            replace oI := oI.kept hk7 (fun z hz e => by have hg := Option.some.inj hz; unfold only at e; exact hn4I (e.symm.trans hg.symm))
            replace hR := hR.keptK hk7 (fun e => by unfold only at e; have := HLT.out; omega)
            replace n2 := nb_far n2 (by have := HLT.out; omega) hk7
            refine hK.out _ _ (kp_far hHeld hb4 hk7) (fun hHeld => ?_)
            clear hK K
            try simp only [Act.put, List.setIfInBounds_toArray, List.set_cons_zero, List.set_cons_succ]
            refine wpAnyH_done (by kernel_rfl) ?_ _
            try go_wp2
            go_meet
            exact ⟨g4, _, _, rfl, n4, n2, oS.mem hbS, oI.mem hbI, hR, hn4S, hn4I, by first | exact hne | exact hne.symm | exact fun e => hne e.symm, hb4, hHeld⟩
          exact AllReadyH.nil
        exact AllReadyH.nil
      refine AllReadyH.cons rfl (fun K hK => ?_) ?_
      · refine nstep_alloc_nb (d := 4) (by rfl) (by rfl) (by rfl) ?_
        intro wx6 g4 n4 hk6 hg6
        have hb4 := Nat.le_trans hHeld.size hg6
        have hn4I := Nat.ne_of_gt (Nat.lt_of_lt_of_le oI.lt1.2 hg6)
        replace hR := hR.keptK hk6 (fun h => h)
        replace n2 := n2.kept hk6 (fun h => h)
        replace oI := oI.keptN hk6
        refine hK.out _ _ (hHeld.thenN hk6) (fun hHeld => ?_)
        clear hK K
        try simp only [Act.put, List.setIfInBounds_toArray, List.set_cons_zero, List.set_cons_succ]
        refine wpAnyH_ready (rs := [1]) (by kernel_rfl) (by simp) ?_
        refine AllReadyH.cons rfl (fun K hK => ?_) ?_
        · obtain ⟨wx1, hmk1, oS, hk1⟩ := HMS.out _
          skip
          refine nstep_make (d := 10) (by rfl) (by rfl) (.tmp 9) 24 (by rfl) _ (by rfl) hmk1 ?_
          clear hmk1
          have hbS := Nat.le_trans hHeld.size oS.lt1.1
          have hne := Nat.ne_of_lt (Nat.lt_of_lt_of_le oI.lt1.2 oS.lt1.1)
          have hn4S := Nat.ne_of_lt (Nat.lt_of_lt_of_le n4.lt oS.lt1.1)
          replace hR := hR.keptK hk1 (fun h => h)
          replace n2 := n2.kept hk1 (fun h => h)
          replace oI := oI.keptN hk1
          replace n4 := n4.kept hk1 (fun h => h)
          refine hK.out _ _ (hHeld.thenN hk1) (fun hHeld => ?_)
          clear hK K
          try simp only [Act.put, List.setIfInBounds_toArray, List.set_cons_zero, List.set_cons_succ]
          refine take_at (i := 5) (d := 14) (v := ?_) rfl rfl (by kernel_rfl) (by kernel_rfl) (by kernel_rfl) (fun _ _ _ h => h) (Or.inl ⟨by rfl, ?_⟩) (by assumption) ?_
          rotate_left
          · intro W hSW
            try dsimp only at hSW
            go_simp
            try with_reducible rfl
          try simp only [Act.put, List.setIfInBounds_toArray, List.set_cons_zero, List.set_cons_succ]
          refine wpAnyH_ready (rs := [7]) (by kernel_rfl) (by simp) ?_
          refine AllReadyH.cons rfl (fun K hK => ?_) ?_
          · refine nstep_store_nb (by rfl) (by rfl) (.tmp 4) (.tmp 14) (by rfl) g4 (by rfl) (by rfl) n4 ?_
            clear n4
            intro wx7 n4 hk7
            replace oS := oS.kept hk7 (fun z hz e => by have hg := Option.some.inj hz; unfold only at e; exact hn4S (e.symm.trans hg.symm))
            replace oI := oI.kept hk7 (fun z hz e => by have hg := Option.some.inj hz; unfold only at e; exact hn4I (e.symm.trans hg.symm))
            replace hR := hR.keptK hk7 (fun e => by unfold only at e; have := HLT.out; omega)
            replace n2 := nb_far n2 (by have := HLT.out; omega) hk7
            refine hK.out _ _ (kp_far hHeld hb4 hk7) (fun hHeld => ?_)
            clear hK K
            try simp only [Act.put, List.setIfInBounds_toArray, List.set_cons_zero, List.set_cons_succ]
            refine wpAnyH_done (by kernel_rfl) ?_ _
            try go_wp2
            go_meet
            exact ⟨g4, _, _, rfl, n4, n2, oS.mem hbS, oI.mem hbI, hR, hn4S, hn4I, by first | exact hne | exact hne.symm | exact fun e => hne e.symm, hb4, hHeld⟩
          exact AllReadyH.nil
        exact AllReadyH.nil
      exact AllReadyH.nil
    refine AllReadyH.cons rfl (fun K hK => ?_) ?_
    · refine nstep_alloc_nb (d := 4) (by rfl) (by rfl) (by rfl) ?_
      intro wx6 g4 n4 hk6 hg6
      have hb4 := Nat.le_trans hHeld.size hg6
      replace hR := hR.keptK hk6 (fun h => h)
      replace n2 := n2.kept hk6 (fun h => h)
      refine hK.out _ _ (hHeld.thenN hk6) (fun hHeld => ?_)
      clear hK K
      try simp only [Act.put, List.setIfInBounds_toArray, List.set_cons_zero, List.set_cons_succ]
      refine wpAnyH_ready (rs := [1, 4]) (by kernel_rfl) (by simp) ?_
      refine AllReadyH.cons rfl (fun K hK => ?_) ?_
      · obtain ⟨wx1, hmk1, oS, hk1⟩ := HMS.out _
        skip
        refine nstep_make (d := 10) (by rfl) (by rfl) (.tmp 9) 24 (by rfl) _ (by rfl) hmk1 ?_
        clear hmk1
        have hbS := Nat.le_trans hHeld.size oS.lt1.1
        have hn4S := Nat.ne_of_lt (Nat.lt_of_lt_of_le n4.lt oS.lt1.1)
        replace hR := hR.keptK hk1 (fun h => h)
        replace n2 := n2.kept hk1 (fun h => h)
        replace n4 := n4.kept hk1 (fun h => h)
        refine hK.out _ _ (hHeld.thenN hk1) (fun hHeld => ?_)
        clear hK K
        try simp only [Act.put, List.setIfInBounds_toArray, List.set_cons_zero, List.set_cons_succ]
        refine wpAnyH_ready (rs := [4]) (by kernel_rfl) (by simp) ?_
        refine AllReadyH.cons rfl (fun K hK => ?_) ?_
        · obtain ⟨wx4, hmk4, oI, hk4⟩ := HMI.out _
          skip
          refine nstep_make (d := 13) (by rfl) (by rfl) (.tmp 12) 25 (by rfl) _ (by rfl) hmk4 ?_
          clear hmk4
          have hbI := Nat.le_trans hHeld.size oI.lt1.1
          have hne := Nat.ne_of_lt (Nat.lt_of_lt_of_le oS.lt1.2 oI.lt1.1)
          have hn4I := Nat.ne_of_lt (Nat.lt_of_lt_of_le n4.lt oI.lt1.1)
          replace hR := hR.keptK hk4 (fun h => h)
          replace n2 := n2.kept hk4 (fun h => h)
          replace oS := oS.keptN hk4
          replace n4 := n4.kept hk4 (fun h => h)
          refine hK.out _ _ (hHeld.thenN hk4) (fun hHeld => ?_)
          clear hK K
          try simp only [Act.put, List.setIfInBounds_toArray, List.set_cons_zero, List.set_cons_succ]
          refine take_at (i := 5) (d := 14) (v := ?_) rfl rfl (by kernel_rfl) (by kernel_rfl) (by kernel_rfl) (fun _ _ _ h => h) (Or.inl ⟨by rfl, ?_⟩) (by assumption) ?_
          rotate_left
          · intro W hSW
            try dsimp only at hSW
            go_simp
            try with_reducible rfl
          try simp only [Act.put, List.setIfInBounds_toArray, List.set_cons_zero, List.set_cons_succ]
          refine wpAnyH_ready (rs := [7]) (by kernel_rfl) (by simp) ?_
          refine AllReadyH.cons rfl (fun K hK => ?_) ?_
          · refine nstep_store_nb (by rfl) (by rfl) (.tmp 4) (.tmp 14) (by rfl) g4 (by rfl) (by rfl) n4 ?_
            clear n4
            intro wx7 n4 hk7
            replace oS := oS.kept hk7 (fun z hz e => by have hg := Option.some.inj hz; unfold only at e; exact hn4S (e.symm.trans hg.symm))
            replace oI := oI.kept hk7 (fun z hz e => by have hg := Option.some.inj hz; unfold only at e; exact hn4I (e.symm.trans hg.symm))
            replace hR := hR.keptK hk7 (fun e => by unfold only at e; have := HLT.out; omega)
            replace n2 := nb_far n2 (by have := HLT.out; omega) hk7
            refine hK.out _ _ (kp_far hHeld hb4 hk7) (fun hHeld => ?_)
            clear hK K
            try simp only [Act.put, List.setIfInBounds_toArray, List.set_cons_zero, List.set_cons_succ]
            refine wpAnyH_done (by kernel_rfl) ?_ _
            try go_wp2
            go_meet
            exact ⟨g4, _, _, rfl, n4, n2, oS.mem hbS, oI.mem hbI, hR, hn4S, hn4I, by first | exact hne | exact hne.symm | exact fun e => hne e.symm, hb4, hHeld⟩
          exact AllReadyH.nil
        exact AllReadyH.nil
      refine AllReadyH.cons rfl (fun K hK => ?_) ?_
      · obtain ⟨wx4, hmk4, oI, hk4⟩ := HMI.out _
        skip
        refine nstep_make (d := 13) (by rfl) (by rfl) (.tmp 12) 25 (by rfl) _ (by rfl) hmk4 ?_
        clear hmk4
        have hbI := Nat.le_trans hHeld.size oI.lt1.1
        have hn4I := Nat.ne_of_lt (Nat.lt_of_lt_of_le n4.lt oI.lt1.1)
        replace hR := hR.keptK hk4 (fun h => h)
        replace n2 := n2.kept hk4 (fun h => h)
        replace n4 := n4.kept hk4 (fun h => h)
        refine hK.out _ _ (hHeld.thenN hk4) (fun hHeld => ?_)
        clear hK K
        try simp only [Act.put, List.setIfInBounds_toArray, List.set_cons_zero, List.set_cons_succ]
        refine wpAnyH_ready (rs := [1]) (by kernel_rfl) (by simp) ?_
        refine AllReadyH.cons rfl (fun K hK => ?_) ?_
        · obtain ⟨wx1, hmk1, oS, hk1⟩ := HMS.out _
          skip
          refine nstep_make (d := 10) (by rfl) (by rfl) (.tmp 9) 24 (by rfl) _ (by rfl) hmk1 ?_
          clear hmk1
          have hbS := Nat.le_trans hHeld.size oS.lt1.1
          have hne := Nat.ne_of_lt (Nat.lt_of_lt_of_le oI.lt1.2 oS.lt1.1)
          have hn4S := Nat.ne_of_lt (Nat.lt_of_lt_of_le n4.lt oS.lt1.1)
          replace hR := hR.keptK hk1 (fun h => h)
          replace n2 := n2.kept hk1 (fun h => h)
          replace oI := oI.keptN hk1
          replace n4 := n4.kept hk1 (fun h => h)
          refine hK.out _ _ (hHeld.thenN hk1) (fun hHeld => ?_)
          clear hK K
          try simp only [Act.put, List.setIfInBounds_toArray, List.set_cons_zero, List.set_cons_succ]
          refine take_at (i := 5) (d := 14) (v := ?_) rfl rfl (by kernel_rfl) (by kernel_rfl) (by kernel_rfl) (fun _ _ _ h => h) (Or.inl ⟨by rfl, ?_⟩) (by assumption) ?_
          rotate_left
          · intro W hSW
            try dsimp only at hSW
            go_simp
            try with_reducible rfl
          try simp only [Act.put, List.setIfInBounds_toArray, List.set_cons_zero, List.set_cons_succ]
          refine wpAnyH_ready (rs := [7]) (by kernel_rfl) (by simp) ?_
          refine AllReadyH.cons rfl (fun K hK => ?_) ?_
          · refine nstep_store_nb (by rfl) (by rfl) (.tmp 4) (.tmp 14) (by rfl) g4 (by rfl) (by rfl) n4 ?_
            clear n4
            intro wx7 n4 hk7
            replace oS := oS.kept hk7 (fun z hz e => by have hg := Option.some.inj hz; unfold only at e; exact hn4S (e.symm.trans hg.symm))
            replace oI := oI.kept hk7 (fun z hz e => by have hg := Option.some.inj hz; unfold only at e; exact hn4I (e.symm.trans hg.symm))
            replace hR := hR.keptK hk7 (fun e => by unfold only at e; have := HLT.out; omega)
            replace n2 := nb_far n2 (by have := HLT.out; omega) hk7
            refine hK.out _ _ (kp_far hHeld hb4 hk7) (fun hHeld => ?_)
            clear hK K
            try simp only [Act.put, List.setIfInBounds_toArray, List.set_cons_zero, List.set_cons_succ]
            refine wpAnyH_done (by kernel_rfl) ?_ _
            try go_wp2
            go_meet
            exact ⟨g4, _, _, rfl, n4, n2, oS.mem hbS, oI.mem hbI, hR, hn4S, hn4I, by first | exact hne | exact hne.symm | exact fun e => hne e.symm, hb4, hHeld⟩
          exact AllReadyH.nil
        exact AllReadyH.nil
      exact AllReadyH.nil
    exact AllReadyH.nil

end Go.Proofs.YtponhibiomcidaaDoor
