/- The walk of the law CacheMore. Conditions: those that the theorem states. -/
import Derived.Test.YtcfhgfelmofgjaaCMo
import Derived.Test.YtcfhgfelmofgjaaCOpen
namespace Go.Proofs.Ytcfhgfelmofgjaa.cacheMore
open Go.RowKit
set_option linter.unusedVariables false

set_option maxRecDepth 100000 in
set_option maxHeartbeats 6400000 in
theorem walk (n0 x0 y0 : Int) (a : Option Addr) (len cap : Nat) (L : List Cop) (w : World) (hB : Sts Cop.cells 3 (fun o _ => o.ok) w.heap.size w (.slice a len cap) L) : Calls Try.prog 4 #[.int .i64 n0, .agg #[.int .i64 x0, .int .i64 y0], .slice a len cap] w fun e w' => e = .returned (.bool true) ∧ w.grownBy w' none := by
  obtain ⟨hlen, hcap, hcm⟩ : len = L.length ∧ L.length ≤ cap ∧ cap ≤ maxLen := by
    obtain ⟨a', c', h0, h1, h2, _⟩ := hB
    cases h0
    exact ⟨rfl, h1, h2⟩
  have hT := hB.take (min len 300) (by omega)
  have hTn : (L.take (min len 300)).length = min len 300 := by rw [List.length_take]; omega
  have hea := cearly_any a len cap
  clear hB
  obtain ⟨L2, HL2⟩ : ∃ L2, Hid (L.take (min len 300) = L2) := ⟨_, rfl⟩
  rw [HL2.out] at hT hTn
  have hL30 : L2.length ≤ 300 := by omega
  rw [← hTn] at hT hea
  have hcl : len ≤ cap := by omega
  clear hTn hlen hcap
  obtain ⟨a', c', h0, _, _, hcs'⟩ := hT
  cases h0
  have hcs := hide hcs'
  clear hcs'
  have hnn := pgN_le n0
  obtain ⟨n, HN⟩ : ∃ n, Hid (pgN n0 = n) := ⟨_, rfl⟩
  rw [HN.out] at hnn
  have k0 := Kp.alloc none' w (.cells #[.int .i64 x0, .int .i64 y0] 38)
  have u0 := new_cell w #[.int .i64 x0, .int .i64 y0] 38 0 _ rfl
  have u1 := new_cell w #[.int .i64 x0, .int .i64 y0] 38 1 _ rfl
  go_enter Try.func4, Try.ntmps4
  go_upto_region 1 with fail
  obtain ⟨b0, HB0⟩ : ∃ b0, Hid (w.heap.size = b0) := ⟨_, rfl⟩
  rw [HB0.out] at u0 u1 ⊢
  obtain ⟨W0, H0⟩ : ∃ W0, Hid (w.alloc (.cells #[.int .i64 x0, .int .i64 y0] 38) = W0) := ⟨_, rfl⟩
  rw [H0.out] at k0 u0 u1 ⊢
  go_upto_region 4 with (first
    | (go_at_call 5; refine (clives_any _).mono ?_; rintro e w1 ⟨rfl, hk1⟩)
    | fail)
  have HNW := pgN_wrap n0
  rw [HN.out] at HNW
  rw [HNW.out]
  have t0 := hk1.cell u0 (fun h => h)
  have t1 := hk1.cell u1 (fun h => h)
  have HOP := fun W => hide (opened_any n W hnn.1 (by omega))
  go_upto_region 7 with (first
    | (go_at_call 6; refine (hea _ hcl hcm).mono ?_; rintro e w' ⟨rfl, rfl⟩)
    | fail)
  have HF := fewN_wrap x0
  have HM := moreN_wrap x0 y0
  have hfm := fewN_le x0 y0
  obtain ⟨mr, HMR⟩ : ∃ mr, Hid (fewN x0 + fewN y0 = mr) := ⟨_, rfl⟩
  rw [HMR.out] at HM hfm
  obtain ⟨fw, HFW⟩ : ∃ fw, Hid (fewN x0 = fw) := ⟨_, rfl⟩
  rw [HFW.out] at HF hfm
  rw [HM.out, HF.out]
  go_upto_region 8 with (first
    | (go_at_call 8; refine (HOP w3).out.mono ?_; rintro e w4 ⟨p', D', g', rfl, hR4, hst4, hP4, hg4, hm4, hk4⟩)
    | (go_at_call 8; refine (HOP _).out.mono ?_; rintro e w2 ⟨p, D, g, rfl, hR2, hst, hP2, hg2, hm2, hk2⟩)
    | (go_at_call 7; refine (cnew_any (mr : Int) hR4 hst4 hP4 (by omega) (fun _ => fillB_size 0)).mono ?_; rintro e w5 ⟨qb, rfl, hbn, hbs, _, _, hC5, hk5⟩)
    | (go_at_call 7; refine (cnew_any (fw : Int) hR2 hst hP2 (by omega) (fun _ => fillB_size 0)).mono ?_; rintro e w3 ⟨qa, rfl, han, has, _, _, hC3, hk3⟩)
    | fail)
  have hK1 : Kp none' w w' := k0.then hk1
  have hK2 := hK1.then hk2
  have hK3 := hK2.then hk3
  have hMo : Mo w w5 qa qb n 0 ⟨[], 0, 0⟩ ⟨[], 0, 0⟩ := by
    have hs1 := hK1.size
    have hs2 := hK2.size
    have hs3 := hK3.size
    have hCa : Cas w3 qa (fun k => w.heap.size ≤ k ∧ k < w3.heap.size) D (fun _ => fillB 0) 0 0 [] 0 0 := hC3.mono (fun k hk h => ⟨by
      rcases h with h | h | h
      · have := hm2 k h; omega
      · rw [h]; omega
      · omega, hk⟩)
    have hCb : Cas w5 qb (fun k => w3.heap.size ≤ k) D' (fun _ => fillB 0) 0 0 [] 0 0 := hC5.mono (fun k hk h => by
      rcases h with h | h | h
      · exact hm4 k h
      · rw [h]; exact hg4
      · have := hk4.size; omega)
    have za : qa.sz = fw := by rw [has]; unfold szN; omega
    have zb : qb.sz = mr := by rw [hbs]; unfold szN; omega
    refine ⟨⟨D, D', _, _, _, hCa.keptN (hk4.then hk5), hCb, fun k hk => ⟨hk.1, by omega⟩, fun k hk => by omega⟩, ⟨⟨List.prefix_refl _, fun _ => rfl, Nat.zero_le _, Nat.zero_le _⟩, Nat.le_refl _, rfl⟩, by omega, by omega, han, hbn, Nat.le_refl _, (hK3.then hk4).then hk5⟩
  clear hC3 hC5 hR2 hP2 hR4 hP4 hm2 hm4 hk2 hk3 hk4 hk5 hea HOP hK1 hK2 hK3 t0 t1
  go_wp2
  go_loopw [11] (fun t wr => ∃ (j : Nat) (s u : St), j ≤ L2.length ∧ t = .int .i64 j ∧ Mo w wr qa qb n j s u) (fun t _ => L2.length - (intOf t).toNat)
  case atStart => exact ⟨0, _, _, Nat.zero_le _, rfl, hMo⟩
  case round =>
    obtain ⟨j, s, u, hj, rfl, hI⟩ := hrel
    clear hMo
    by_cases hlt : j < L2.length
    · have hji : (j : Int) < (L2.length : Int) := by omega
      have hK := hI.kp
      obtain ⟨b, off, rfl, hbl, hra, hoo⟩ := hcs.out j hlt
      obtain ⟨o, HOo⟩ : ∃ o, Hid (L2[j] = o) := ⟨_, hide rfl⟩
      rw [HOo.out] at hra hoo
      obtain ⟨z, b8, wt⟩ := o
      have r0 : w.cell? ⟨b, off + j * 3, none⟩ = some (.int .i64 z) := by have := hra 0 _ rfl; rw [Nat.add_zero] at this; exact this
      have d0 := hK.cell r0 (fun h => h)
      clear hra hoo
      have HRD := hide (mo_read z hI (by omega))
      clear hI hK
      obtain ⟨s', HS⟩ : ∃ s', Hid (s.use qa.sz n z = s') := ⟨_, rfl⟩
      obtain ⟨u', HU⟩ : ∃ u', Hid (u.use qb.sz n z = u') := ⟨_, rfl⟩
      rw [HS.out, HU.out] at HRD
      go_upto_region 13 with (first
        | (go_at_call 9; refine hrd2.out.mono ?_; rintro e w4 ⟨⟨X2, E2, rfl⟩, hI4⟩)
        | (go_at_call 9; refine HRD.out.mono ?_; rintro e w3' ⟨⟨X, E, rfl⟩, hk3, hrd2⟩; have d1 := hk3.cell r0 (fun h => h))
        | fail)
      obtain ⟨Da, Db, Q, F, G, hCa, hCb, _, _⟩ := hI4.ex
      have hka := hide (ckept_any hCa)
      have HKB : Hid (∀ W : World, Kp none' w4 W → Calls Try.prog 10 #[.pointer (some ⟨qb.c, 0, none⟩)] W fun e w' => ∃ v, e = .returned v ∧ Ow (Value.int .i64) 3 w' W.heap.size v u'.K ∧ Kp none' W w') := fun W hW => ckept_any (Cas.keptN hCb hW)
      have HHA : Hid (∀ W : World, Kp none' w4 W → Calls Try.prog 12 #[.pointer (some ⟨qa.c, 0, none⟩)] W fun e w' => e = .returned (.int .i64 (s'.h : Int)) ∧ w' = W) := fun W hW => chits_any (Cas.keptN hCa hW)
      have HHB : Hid (∀ W : World, Kp none' w4 W → Calls Try.prog 12 #[.pointer (some ⟨qb.c, 0, none⟩)] W fun e w' => e = .returned (.int .i64 (u'.h : Int)) ∧ w' = W) := fun W hW => chits_any (Cas.keptN hCb hW)
      have HMA : Hid (∀ W : World, Kp none' w4 W → Calls Try.prog 13 #[.pointer (some ⟨qa.c, 0, none⟩)] W fun e w' => e = .returned (.int .i64 (s'.m : Int)) ∧ w' = W) := fun W hW => cmisses_any (Cas.keptN hCa hW)
      have HMB : Hid (∀ W : World, Kp none' w4 W → Calls Try.prog 13 #[.pointer (some ⟨qb.c, 0, none⟩)] W fun e w' => e = .returned (.int .i64 (u'.m : Int)) ∧ w' = W) := fun W hW => cmisses_any (Cas.keptN hCb hW)
      have HPRE : Hid (u'.K.take s'.K.length = s'.K) := by
        obtain ⟨rr, hrr⟩ := hI4.l.ls.pre
        show _ = _
        rw [← hrr]
        simp
      have HLE : Hid (s'.K.length ≤ u'.K.length) := hI4.l.ls.pre.length_le
      have h64 : s'.K.length ≤ 64 := by have := hI4.l.ls.lk; have := hI4.ab; have := hI4.b6; omega
      have hhm := hI4.l.hh
      have hsm := hI4.l.sm
      have hlm := hI4.lm
      clear hCa hCb d0
      have HI4 := hide hI4
      clear hI4
      obtain ⟨sh, HSH⟩ : ∃ sh, Hid (s'.h = sh) := ⟨_, rfl⟩
      obtain ⟨sm, HSM⟩ : ∃ sm, Hid (s'.m = sm) := ⟨_, rfl⟩
      obtain ⟨uh, HUH⟩ : ∃ uh, Hid (u'.h = uh) := ⟨_, rfl⟩
      obtain ⟨um, HUM⟩ : ∃ um, Hid (u'.m = um) := ⟨_, rfl⟩
      rw [HSH.out] at HHA hhm hsm hlm
      rw [HSM.out] at HMA hsm hlm
      rw [HUH.out] at HHB hhm hsm
      rw [HUM.out] at HMB hsm
      have hhi : ¬ (uh : Int) < (sh : Int) := by omega
      have hsu : ((sh : Int) + (sm : Int) != (uh : Int) + (um : Int)) = false := by
        have : (sh : Int) + (sm : Int) = (uh : Int) + (um : Int) := by omega
        rw [this]
        simp
      have hb1 : sh ≤ 1000 := by omega
      have hb2 : sm ≤ 1000 := by omega
      have hb3 : uh ≤ 1000 := by omega
      have hb4 : um ≤ 1000 := by omega
      clear hhm hsm hlm
      go_upto_region 14 with (first
        | (go_at_call 10; refine (HKB.out w5' hk5).mono ?_; rintro e w6 ⟨v6, rfl, hO6, hk6⟩; obtain ⟨a6, c6, rfl, hl6, hm6, _⟩ := hO6.kps)
        | (go_at_call 10; refine hka.out.mono ?_; rintro e w5' ⟨v5, rfl, hO5, hk5⟩; obtain ⟨a5, c5, rfl, _⟩ := hO5.open)
        | fail)
      have hle := HLE.out
      have hkp := (hO6.kps).take s'.K.length hle
      rw [HPRE.out] at hkp
      have HS5 := hide (hO5.keptN hk6).sl
      have HS6 := hide hkp.sl
      have HK6 := hide (hk5.then hk6)
      clear hkp hO5 hO6 hk5 hk6
      obtain ⟨k1, HK1⟩ : ∃ k1, Hid (s'.K.length = k1) := ⟨_, rfl⟩
      obtain ⟨k2, HK2⟩ : ∃ k2, Hid (u'.K.length = k2) := ⟨_, rfl⟩
      rw [HK1.out] at hle h64 HS5 HS6 ⊢
      rw [HK2.out] at hle hl6 ⊢
      have hle1 : ¬ (k2 : Int) < (k1 : Int) := by omega
      have hle2 : k1 ≤ c6 := by omega
      have HSA : Hid (s'.K.length ≤ 1000000) := by show _ ≤ _; rw [HK1.out]; omega
      go_wp2_with (first
        | (go_at_call 11; refine (sameInts_sl _ _ s'.K _ _ _ HS5.out HS6.out HSA.out).mono ?_; rintro e w7 ⟨rfl, hk7⟩)
        | (go_at_call 12; with_reducible refine (HHA.out _ (HK6.out.then hk7)).mono ?_; rintro e w' ⟨rfl, rfl⟩)
        | (go_at_call 12; with_reducible refine (HHB.out _ (HK6.out.then hk7)).mono ?_; rintro e w' ⟨rfl, rfl⟩)
        | (go_at_call 13; with_reducible refine (HMA.out _ (HK6.out.then hk7)).mono ?_; rintro e w' ⟨rfl, rfl⟩)
        | (go_at_call 13; with_reducible refine (HMB.out _ (HK6.out.then hk7)).mono ?_; rintro e w' ⟨rfl, rfl⟩)
        | fail)
      go_roundw
      case rel => exact ⟨j + 1, s', u', by omega, by go_num, HI4.out.keptN (HK6.out.then hk7)⟩
      case measure => simp [intOf]; omega
    · obtain rfl : j = L2.length := by omega
      go_wp2
      go_ret
      exact ⟨rfl, hI.kp.grown⟩

end Go.Proofs.Ytcfhgfelmofgjaa.cacheMore
