/- The walk of the law CacheSize. Conditions: those that the theorem states. -/
import Derived.Test.YtcfhgfelmofgjaaCSz
import Derived.Test.YtcfhgfelmofgjaaCOpen
namespace Go.Proofs.Ytcfhgfelmofgjaa.cacheSize
open Go.RowKit
set_option linter.unusedVariables false

set_option maxRecDepth 100000 in
set_option maxHeartbeats 6400000 in
theorem walk (n0 z0 : Int) (a : Option Addr) (len cap : Nat) (L : List Cop) (w : World) (hB : Sts Cop.cells 3 (fun o _ => o.ok) w.heap.size w (.slice a len cap) L) : Calls Try.prog 3 #[.int .i64 n0, .int .i64 z0, .slice a len cap] w fun e w' => e = .returned (.bool true) ∧ w.grownBy w' none := by
  obtain ⟨hlen, hcap, hcm⟩ : len = L.length ∧ L.length ≤ cap ∧ cap ≤ maxLen := by
    obtain ⟨a', c', h0, h1, h2, _⟩ := hB
    cases h0
    exact ⟨rfl, h1, h2⟩
  have hT := hB.take (min len 300) (by omega)
  have hTn : (L.take (min len 300)).length = min len 300 := by rw [List.length_take]; omega
  have hea := cearly_any a len cap
  clear hB
  obtain ⟨L2, HL2⟩ : ∃ L2, Hid (L.take (min len 300) = L2) := ⟨_, rfl⟩
  rw [HL2.out] at hT hTn
  have hL30 : L2.length ≤ 300 := by omega
  rw [← hTn] at hT hea
  have hcl : len ≤ cap := by omega
  clear hTn hlen hcap
  obtain ⟨a', c', h0, _, _, hcs'⟩ := hT
  cases h0
  have hcs := hide hcs'
  clear hcs'
  have hnn := pgN_le n0
  obtain ⟨n, HN⟩ : ∃ n, Hid (pgN n0 = n) := ⟨_, rfl⟩
  rw [HN.out] at hnn
  go_enter Try.func3, Try.ntmps3
  go_upto_region 4 with (first
    | (go_at_call 5; refine (clives_any _).mono ?_; rintro e w1 ⟨rfl, hk1⟩)
    | fail)
  have HNW := pgN_wrap n0
  rw [HN.out] at HNW
  rw [HNW.out]
  have HOP := fun W => hide (opened_any n W hnn.1 (by omega))
  go_upto_region 6 with (first
    | (go_at_call 6; refine (hea _ hcl hcm).mono ?_; rintro e w' ⟨rfl, rfl⟩)
    | (go_at_call 8; refine (HOP _).out.mono ?_; rintro e w2 ⟨p, D, g, rfl, hR2, hst, hP2, hg2, hm2, hk2⟩)
    | (go_at_call 7; refine (cnew_any z0 hR2 hst hP2 (by omega) (fun _ => fillB_size 0)).mono ?_; rintro e w3 ⟨q, rfl, hqn, hqs, _, _, hC3, hk3⟩)
    | fail)
  have hK3 := (hk1.then hk2).then hk3
  have hC4 : Cst w3 q (fun k => w.heap.size ≤ k) D (fun _ => fillB 0) 0 0 ⟨[], 0, 0⟩ := hC3.mono (fun k hk h => by
    rcases h with h | h | h
    · exact Nat.le_trans hk1.size (hm2 k h)
    · rw [h]; exact Nat.le_trans hk1.size hg2
    · exact Nat.le_trans (hk1.then hk2).size h)
  have hq64 : q.sz ≤ 64 := by rw [hqs]; unfold szN; omega
  have HSZ : Hid (min (max z0 0) 64 = (q.sz : Int)) := by show _ = _; rw [hqs]; unfold szN; omega
  clear hC3 hR2 hP2 hm2 hk1 hk2 hk3 hea HOP
  go_wp2
  go_loopw [8] (fun t wr => ∃ (j : Nat) (s : St), j ≤ L2.length ∧ t = .int .i64 j ∧ Cst wr q (fun k => w.heap.size ≤ k) D (fun _ => fillB 0) 0 0 s ∧ s.K.Nodup ∧ s.K.length ≤ q.sz ∧ s.h + s.m ≤ j ∧ Kp none' w wr) (fun t _ => L2.length - (intOf t).toNat)
  case atStart => exact ⟨0, ⟨[], 0, 0⟩, Nat.zero_le _, rfl, hC4, by simp, Nat.zero_le _, Nat.le_refl _, hK3⟩
  case round =>
    obtain ⟨j, s, hj, rfl, hC, hnd, hle, hlm, hK⟩ := hrel
    clear hC4 hK3
    by_cases hlt : j < L2.length
    · have hji : (j : Int) < (L2.length : Int) := by omega
      obtain ⟨b, off, rfl, hbl, hra, hoo⟩ := hcs.out j hlt
      obtain ⟨o, HOo⟩ : ∃ o, Hid (L2[j] = o) := ⟨_, hide rfl⟩
      rw [HOo.out] at hra hoo
      obtain ⟨z, b8, wt⟩ := o
      have r0 : w.cell? ⟨b, off + j * 3, none⟩ = some (.int .i64 z) := by have := hra 0 _ rfl; rw [Nat.add_zero] at this; exact this
      have d0 := hK.cell r0 (fun h => h)
      clear hra hoo
      have HRD := hide (cread_any hC (by omega) z)
      have hnd' := St.use_nodup' q.sz q.n z hnd
      have hle' := St.use_len' q.sz q.n z hle
      have hsu := St.sum (sz := q.sz) (n := q.n) s z
      have HHD : Hid (inR q.n z = true → 0 < q.sz → (s.use q.sz q.n z).K[0]? = some z) := fun hz hs => by
        unfold St.use
        rw [if_pos hz]
        split <;> exact use_head hs z
      obtain ⟨s', HS⟩ : ∃ s', Hid (s.use q.sz q.n z = s') := ⟨_, rfl⟩
      rw [HS.out] at HRD hnd' hle' hsu HHD
      have hlm' : s'.h + s'.m ≤ j + 1 := by split at hsu <;> omega
      clear hC hnd hle hsu hlm
      obtain ⟨X, HX⟩ : ∃ X, Hid (rdCS q.n (fun _ => fillB 0) z = X) := ⟨_, rfl⟩
      obtain ⟨E, HE⟩ : ∃ E, Hid (rdCE q.n z = E) := ⟨_, rfl⟩
      rw [HX.out, HE.out] at HRD
      go_upto_region 11 with (first
        | (go_at_call 9; refine HRD.out.mono ?_; rintro e w4 ⟨rfl, hC4, hk4⟩)
        | (go_at_call 10; refine (ckept_any hC4).mono ?_; rintro e w5 ⟨v5, rfl, hO5, hk5⟩; obtain ⟨a5, c5, rfl, hcl5⟩ := hO5.open)
        | fail)
      have hK5 : Kp none' w w5 := (hK.trans hk4 (fun _ _ h => h) (fun k hk h => absurd h (by omega))).then hk5
      have hC5 : Cst w5 q (fun k => w.heap.size ≤ k) D (fun _ => fillB 0) 0 0 s' := Cas.mono (Cas.keptN hC4 hk5) (fun k _ h => by
        rcases h with h | h
        · exact h
        · exact Nat.le_trans hK.size h)
      have HC5 := hide hC5
      have d5 := hK5.cell r0 (fun h => h)
      clear hC4 hk4 hk5 hC5 d0 hK HRD
      have HCL := hide hcl5
      obtain ⟨kl, HKL⟩ : ∃ kl, Hid (s'.K.length = kl) := ⟨_, rfl⟩
      rw [HKL.out] at hle' ⊢
      have HND := hide hnd'
      clear hcl5 hnd' hO5
      go_cut [74] from 27 to 94 (fun t W => t = .bool false ∧ Kp none' w5 W)
      case rest =>
        obtain ⟨rfl, hkc⟩ := hcut
        clear d5
        go_wp2
        go_loopw [12] (fun t wx => ∃ k : Nat, k ≤ kl ∧ t = .int .i64 k ∧ Kp none' w5 wx) (fun t _ => kl - (intOf t).toNat)
        case atStart => exact ⟨0, Nat.zero_le _, rfl, hkc⟩
        case round =>
          obtain ⟨k, hk, rfl, hkx⟩ := hrel
          by_cases hkl : k < kl
          · have hki : (k : Int) < (kl : Int) := by omega
            obtain ⟨g5, ha5, _, hck⟩ := HCL.out k (by rw [HKL.out]; exact hkl)
            subst ha5
            obtain ⟨y, HY⟩ : ∃ y, Hid (s'.K[k]'(by rw [HKL.out]; exact hkl) = y) := ⟨_, hide rfl⟩
            rw [HY.out] at hck
            go_upto_region 16 with fail
            go_wp2
            go_loopw [13] (fun t wy => ∃ i : Nat, i ≤ k ∧ t = .int .i64 i ∧ Kp none' w5 wy) (fun t _ => k - (intOf t).toNat)
            case atStart => exact ⟨0, Nat.zero_le _, rfl, hkx⟩
            case round =>
              obtain ⟨i, hi, rfl, hky⟩ := hrel
              by_cases hik : i < k
              · have hii : (i : Int) < (k : Int) := by omega
                have hil : i < s'.K.length := by rw [HKL.out]; omega
                have hkL : k < s'.K.length := by rw [HKL.out]; exact hkl
                obtain ⟨g6, ha6, _, hci⟩ := HCL.out i hil
                injection ha6 with ha6
                injection ha6 with ha6 _
                subst ha6
                have hne : s'.K[i] ≠ s'.K[k] := fun e => by
                  have hp := List.pairwise_iff_getElem.1 HND.out i k hil hkL hik
                  exact hp e
                rw [HY.out] at hne
                obtain ⟨x, HX'⟩ : ∃ x, Hid (s'.K[i] = x) := ⟨_, hide rfl⟩
                rw [HX'.out] at hci hne
                have e1 := hky.cell hci (fun h => h)
                have e2 := hky.cell hck (fun h => h)
                have hxy : (x == y) = false := by simpa using hne
                have hkl2 : (i : Int) < (kl : Int) := by omega
                have hKd := hky.then (Kp.drew none' _)
                clear hne
                go_wp2
                go_region
                all_goals go_wp2
                all_goals go_roundw
                all_goals first
                  | exact ⟨i + 1, by omega, by go_num, hKd⟩
                  | (simp [intOf]; omega)
              · obtain rfl : i = k := by omega
                go_wp2
                go_roundw
                case rel => exact ⟨i + 1, by omega, by go_num, hky⟩
                case measure => simp [intOf]; omega
          · have hke : kl = k := by omega
            subst hke
            go_wp2
            go_roundw
            case rel => exact ⟨j + 1, s', by omega, by go_num, Cas.keptN HC5.out hkx, HND.out, by rw [HKL.out]; exact hle', hlm', hK5.then hkx⟩
            case measure => simp [intOf]; omega
      case first =>
        have hgt : ¬ (min (max z0 0) 64 < (kl : Int)) := by rw [HSZ.out]; omega
        have hgb : decide (min (max z0 0) 64 < (kl : Int)) = false := decide_eq_false hgt
        have d6 : w5.drew.cell? ⟨b, off + j * 3, none⟩ = some (.int .i64 z) := d5
        have hlm0 : j < L2.length := hlt
        by_cases hin : inR q.n z = true
        · obtain rfl : E = 0 := by rw [← HE.out]; unfold rdCE; rw [if_pos hin]
          by_cases hz0 : 0 < z0
          · have hqp : 0 < q.sz := by have := HSZ.out; omega
            have hhd := HHD.out hin hqp
            have hk0 : 0 < s'.K.length := by
              cases hK : s'.K with
              | nil => rw [hK] at hhd; cases hhd
              | cons a l => simp
            obtain ⟨g5, ha5, _, hc0⟩ := HCL.out 0 hk0
            subst ha5
            have e0 : s'.K[0] = z := by
              rw [List.getElem?_eq_getElem hk0] at hhd
              injection hhd
            rw [e0] at hc0
            rw [HKL.out] at hk0
            have hk1 : ((kl : Int) == 0) = false := by
              have : (kl : Int) ≠ 0 := by omega
              simpa using this
            have hk2 : (0 : Int) < (kl : Int) := by omega
            have hzz : (z != z) = false := by simp
            have c0d : w5.drew.cell? ⟨g5, 0, none⟩ = some (.int .i64 z) := hc0
            clear e0 hhd
            go_quiet (fail)
            all_goals go_wp2
            all_goals go_meet
            all_goals exact ⟨rfl, Kp.drewN _ _ _⟩
          · go_quiet (fail)
            all_goals go_wp2
            all_goals go_meet
            all_goals exact ⟨rfl, Kp.drewN _ _ _⟩
        · obtain rfl : E = 7 := by rw [← HE.out]; unfold rdCE; rw [if_neg hin]
          go_quiet (fail)
          all_goals go_wp2
          all_goals go_meet
          all_goals exact ⟨rfl, Kp.drewN _ _ _⟩
    · obtain rfl : j = L2.length := by omega
      go_wp2
      go_ret
      exact ⟨rfl, hK.grown⟩

end Go.Proofs.Ytcfhgfelmofgjaa.cacheSize
