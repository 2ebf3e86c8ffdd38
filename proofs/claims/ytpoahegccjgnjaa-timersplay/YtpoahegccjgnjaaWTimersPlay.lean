/- The walk of the law TimersPlay. Conditions: those that the theorem states. -/
import Derived.Test.YtpoahegccjgnjaaYPly
namespace Go.Proofs.Ytpoahegccjgnjaa.timersPlay
open Go.RowKit
set_option linter.unusedVariables false

set_option maxRecDepth 100000 in
set_option maxHeartbeats 12800000 in
theorem walk (a : Option Addr) (len cap : Nat) (L0 : List Tp) (ask : Int) (w : World) (hB : Sts Tp.cells 3 (fun o _ => o.ok) w.heap.size w (.slice a len cap) L0) : Calls Try.prog 3 #[.slice a len cap, .int .i64 ask] w fun e w' => e = .returned (.bool true) ∧ w.grownBy w' none := by
  obtain ⟨S, hL3, hmin, hLc, hlc, hcm, hscr⟩ := scr_of hB
  have HSC := hide hscr
  clear hB hscr
  have HV := hide (tlives_any w)
  have HE := hide (fun W => tearly_any a len cap W hlc hcm)
  rw [hmin] at HE
  clear hmin hlc hcm hLc
  go_enter Try.func3, Try.ntmps3
  go_upto_region 3 with (go_at_call 7; refine HV.out.mono ?_; clear HV; rintro e w1 ⟨rfl, k1⟩)
  have HN1 := fun W => hide (tnew_any W)
  go_upto_region 5 with (first
    | (go_at_call 8; refine (HE.out _).mono ?_; clear HE; rintro e w2 ⟨rfl, e2⟩; subst e2; have HA := HN1 w2; clear HN1)
    | (go_at_call 9; refine HA.out.mono ?_; clear HA; rintro e w3 ⟨p, F, rfl, ha3, fa, k3⟩))
  obtain ⟨w4, e4, k4, r4⟩ := rnew18 w3 F ha3.lt
  rw [e4]
  obtain ⟨q, Hq⟩ : ∃ q, Hid (w3.heap.size = q) := ⟨_, rfl⟩
  have hwq : w.heap.size ≤ q := by rw [← Hq.out]; exact (k1.then k3).size
  rw [Hq.out] at r4 ⊢
  have T4 : Ply w w4 p q F (.slice none 0 0) [] [] := ⟨ha3.kept k4 (fun _ _ h => h), r4, fun k hk => Nat.le_trans k1.size (fa k hk), hwq, (k1.then k3).then k4⟩
  clear ha3 fa k3 k1 k4 r4 e4
  go_wp2
  go_loopw [7] (fun t wr => ∃ (i : Nat) (F : Nat → Prop) (v : Value) (L : List (Int × Int)), i ≤ S.length ∧ t = .int .i64 i ∧ L.length ≤ i ∧ Ply w wr p q F v L L) (fun t _ => S.length - (intOf t).toNat)
  case atStart => exact ⟨0, F, _, [], Nat.zero_le _, rfl, Nat.le_refl _, T4⟩
  case round =>
    obtain ⟨i, F, v, L, hi, rfl, hLi, hT⟩ := hrel
    clear T4
    by_cases hlt : i < S.length
    · have hii : (i : Int) < (S.length : Int) := by omega
      obtain ⟨b, off, rfl, hbw, c0, c1, c2⟩ := HSC.out i hlt
      have d0 := hT.kp.cell c0 (fun h => h)
      have d1 := hT.kp.cell c1 (fun h => h)
      have d2 := hT.kp.cell c2 (fun h => h)
      obtain ⟨o, HO⟩ : ∃ o, Hid (S[i] = o) := ⟨_, hide rfl⟩
      rw [HO.out] at d0 d1 d2
      clear c0 c1 c2
      go_upto_region 9 with fail
      obtain ⟨W6, e6, k6, p0, p1, p2⟩ := new_step wr o
      rw [e6]
      have HKd := hide (kind_any o W6)
      unfold Tp.cells at HKd
      have hk3 := o.kd_lt
      obtain ⟨kd, Hkd⟩ : ∃ kd, Hid (o.kd = kd) := ⟨_, rfl⟩
      rw [Hkd.out] at HKd hk3
      have hT6 := hT.kept k6
      obtain ⟨ob, Hob⟩ : ∃ ob, Hid (wr.heap.size = ob) := ⟨_, rfl⟩
      rw [Hob.out] at p0 p1 p2 ⊢
      have hFob : ¬ F ob := fun hf => by have := hT.tm.lt ob hf; rw [← Hob.out] at this; omega
      have hqob : ob ≠ q := by have := lt_of_cell hT.rf.c; rw [← Hob.out]; omega
      have hLl : L.length ≤ 300 := by omega
      have HLi := hide hLi
      clear hT d0 d1 d2
      go_upto_region 10 with (go_at_call 10; refine HKd.out.mono ?_; clear HKd; rintro e w7 ⟨rfl, k7⟩)
      have hT7 := hT6.kept k7
      have p1' := k7.cell p1 (fun h => h)
      have p2' := k7.cell p2 (fun h => h)
      clear p0 p1 p2 hT6 k6 k7
      by_cases hk0 : kd = 0
      · have hkb : ((kd : Int) == 0) = true := by rw [hk0]; rfl
        have HSA := hide (tset_any p F L o.id o.t w7 hT7.tm (by omega))
        go_upto_region 12 with (go_at_call 11; refine HSA.out.mono ?_; clear HSA; rintro e w8 ⟨rfl, hs8⟩)
        obtain ⟨Fx, tx, fx1, fx2, kx⟩ := hs8
        have r1 := kx.cell p1' hFob
        have r2 := kx.cell p2' hFob
        obtain ⟨F1, hT8⟩ := hT7.setA ⟨Fx, tx, fx1, fx2, kx⟩
        have HSB := hide (hT8.setB o.id o.t (by omega) (by have := hT7.tm.ids; exact this))
        go_upto_region 19 with (go_at_call 12; refine HSB.out.mono ?_; clear HSB; rintro e w9 ⟨rfl, v1, hT9, k9⟩)
        have hlen := setL_len o.id o.t L
        obtain ⟨L1, HL1⟩ : ∃ L1, Hid (setL o.id o.t L = L1) := ⟨_, rfl⟩
        rw [HL1.out] at hT9 hlen
        have hL1 : L1.length ≤ i + 1 := by omega
        have hP := hT9
        clear hT9 hT8 hT7 p1' p2' r1 r2 k9
        cases L1 with
        | nil =>
          have HNX := hide (tnext_none p F1 _ hP.tm)
          obtain ⟨ra, rc, er, hrc, hro⟩ := hP.rf.r.at
          have hcq := hP.rf.c
          rw [er] at hcq
          have HLN := fun n => hide (tlen_any p F1 [] _ (hP.kept (Kp.drewN none' _ n)).tm)
          have hb1 : ((0 : Int) != 0) = false := rfl
          have hb2 : ¬ ((0 : Int) < 0) := by omega
          have HP := hide hP
          clear hro er
          go_upto_region 20 with (go_at_call 18; refine HNX.out.mono ?_; clear HNX; rintro e w9 ⟨rfl, e9⟩; subst e9)
          go_quiet ((go_at_call 19; exact Calls.quiet_of_same ((HLN _).out)))
          go_wp2
          go_roundw
          case rel => exact ⟨i + 1, F1, v1, [], by omega, by go_num, hL1, HP.out.kept (Kp.drewN none' _ _)⟩
          case measure => simp [intOf]; omega
        | cons z Z =>
          have HNX := hide (tnext_some p F1 z Z _ hP.tm)
          obtain ⟨zt, zi⟩ := z
          dsimp only at HNX
          go_upto_region 20 with (go_at_call 18; refine HNX.out.mono ?_; clear HNX; rintro e w10 ⟨rfl, d9, e9⟩; have hP10 := hP.kept (Kp.drewN none' _ d9); rw [← e9] at hP10; clear e9 hP)
          obtain ⟨ra, rc, er, hrc, hro⟩ := hP10.rf.r.at
          have hcq := hP10.rf.c
          rw [er] at hcq
          obtain ⟨rb, ro, ea, z0, z1⟩ := hro 0 (by simp)
          subst ea
          simp only [Nat.zero_mul, Nat.add_zero, List.getElem_cons_zero] at z0 z1
          obtain ⟨n1, Hn1⟩ : ∃ n1, Hid (((zt, zi) :: Z).length = n1) := ⟨_, rfl⟩
          have hn1 : 0 < n1 := by rw [← Hn1.out]; simp
          have hn2 : n1 ≤ 301 := by rw [← Hn1.out]; omega
          rw [Hn1.out] at hcq hrc
          have HLN := fun n => hide (tlen_any p F1 ((zt, zi) :: Z) _ (hP10.kept (Kp.drewN none' _ n)).tm)
          rw [Hn1.out] at HLN
          have hb1 : ((n1 : Int) != (n1 : Int)) = false := by simp
          have hb2 : (0 : Int) < (n1 : Int) := by omega
          have hb3 : (zt != zt) = false := by simp
          have hb4 : (zi != zi) = false := by simp
          have HP := hide hP10
          clear hro er hP10
          go_quiet ((go_at_call 19; exact Calls.quiet_of_same ((HLN _).out)))
          go_wp2
          go_roundw
          case rel => exact ⟨i + 1, F1, v1, _, by omega, by go_num, hL1, HP.out.kept (Kp.drewN none' _ _)⟩
          case measure => simp [intOf]; omega
      · have hkb0 : ((kd : Int) == 0) = false := beq_eq_false_iff_ne.2 (by omega)
        have hid := hT7.tm.ids
        have HID := hide hid
        clear hid
        by_cases hk1 : kd = 1
        · have hkb1 : ((kd : Int) == 1) = true := by rw [hk1]; rfl
          clear hk1
          obtain ⟨ts, Hts⟩ : ∃ ts, Hid ((tillL o.id L).isSome = ts) := ⟨_, rfl⟩
          have hbn : (ts != ts) = false := by simp
          have hlen := dropL_le o.id L
          obtain ⟨L1, HL1⟩ : ∃ L1, Hid (dropL o.id L = L1) := ⟨_, rfl⟩
          rw [HL1.out] at hlen
          have HDA1 := hide ((hT7.kept (Kp.drew none' _)).dropA o.id)
          have HDA0 := hide (hT7.dropA o.id)
          rw [Hts.out, HL1.out] at HDA1 HDA0
          have HDB := hide (fun W (h : Ply w W p q F v L1 L) => h.dropB o.id (by omega) HID.out)
          rw [Hts.out, HL1.out] at HDB
          clear hT7
          go_upto_region 14 with fail
          go_cut [59] from 51 to 59 (fun t W => t = .bool false ∧ ∃ v1, Ply w W p q F v1 L1 L1)
          case rest =>
            obtain ⟨rfl, v1, hP⟩ := hcut
            have hL1 : L1.length ≤ i + 1 := by have := HLi.out; omega
            clear HDA1 HDA0 HDB p1' p2'
            cases L1 with
            | nil =>
              have HNX := hide (tnext_none p F _ hP.tm)
              obtain ⟨ra, rc, er, hrc, hro⟩ := hP.rf.r.at
              have hcq := hP.rf.c
              rw [er] at hcq
              have HLN := fun n => hide (tlen_any p F [] _ (hP.kept (Kp.drewN none' _ n)).tm)
              have hb1 : ((0 : Int) != 0) = false := rfl
              have hb2 : ¬ ((0 : Int) < 0) := by omega
              have HP := hide hP
              clear hro er
              go_upto_region 20 with (go_at_call 18; refine HNX.out.mono ?_; clear HNX; rintro e w9 ⟨rfl, e9⟩; subst e9)
              go_quiet ((go_at_call 19; exact Calls.quiet_of_same ((HLN _).out)))
              go_wp2
              go_roundw
              case rel => exact ⟨i + 1, F, v1, [], by omega, by go_num, hL1, HP.out.kept (Kp.drewN none' _ _)⟩
              case measure => simp [intOf]; omega
            | cons z Z =>
              have HNX := hide (tnext_some p F z Z _ hP.tm)
              obtain ⟨zt, zi⟩ := z
              dsimp only at HNX
              go_upto_region 20 with (go_at_call 18; refine HNX.out.mono ?_; clear HNX; rintro e w10 ⟨rfl, d9, e9⟩; have hP10 := hP.kept (Kp.drewN none' _ d9); rw [← e9] at hP10; clear e9 hP)
              obtain ⟨ra, rc, er, hrc, hro⟩ := hP10.rf.r.at
              have hcq := hP10.rf.c
              rw [er] at hcq
              obtain ⟨rb, ro, ea, z0, z1⟩ := hro 0 (by simp)
              subst ea
              simp only [Nat.zero_mul, Nat.add_zero, List.getElem_cons_zero] at z0 z1
              obtain ⟨n1, Hn1⟩ : ∃ n1, Hid (((zt, zi) :: Z).length = n1) := ⟨_, rfl⟩
              have hn1 : 0 < n1 := by rw [← Hn1.out]; simp
              have hn2 : n1 ≤ 301 := by rw [← Hn1.out]; omega
              rw [Hn1.out] at hcq hrc
              have HLN := fun n => hide (tlen_any p F ((zt, zi) :: Z) _ (hP10.kept (Kp.drewN none' _ n)).tm)
              rw [Hn1.out] at HLN
              have hb1 : ((n1 : Int) != (n1 : Int)) = false := by simp
              have hb2 : (0 : Int) < (n1 : Int) := by omega
              have hb3 : (zt != zt) = false := by simp
              have hb4 : (zi != zi) = false := by simp
              have HP := hide hP10
              clear hro er hP10
              go_quiet ((go_at_call 19; exact Calls.quiet_of_same ((HLN _).out)))
              go_wp2
              go_roundw
              case rel => exact ⟨i + 1, F, v1, _, by omega, by go_num, hL1, HP.out.kept (Kp.drewN none' _ _)⟩
              case measure => simp [intOf]; omega
          case first =>
            go_region_with (first
              | (go_at_call 13; refine HDA1.out.mono ?_; rintro e w8 ⟨rfl, hT8, kx⟩; have r1 := kx.cell p1' hFob)
              | (go_at_call 13; refine HDA0.out.mono ?_; rintro e w8 ⟨rfl, hT8, kx⟩; have r1 := kx.cell p1' hFob)
              | (go_at_call 14; refine (HDB.out _ hT8).mono ?_; rintro e w9 ⟨rfl, v1, hT9, k9⟩))
            all_goals go_wp2
            all_goals go_meet
            all_goals exact ⟨rfl, v1, hT9⟩
        · have hkb1 : ((kd : Int) == 1) = false := beq_eq_false_iff_ne.2 (by omega)
          have hkb2 : ((kd : Int) == 2) = true := by rw [show kd = 2 by omega]; rfl
          have hlen := restL_le o.t L
          have hdl : (dueL o.t L).length ≤ 1000000 := by have := due_len o.t L; omega
          obtain ⟨L1, HL1⟩ : ∃ L1, Hid (restL o.t L = L1) := ⟨_, rfl⟩
          obtain ⟨D, HD⟩ : ∃ D, Hid (dueL o.t L = D) := ⟨_, rfl⟩
          rw [HL1.out] at hlen
          rw [HD.out] at hdl
          have hq7 := lt_of_cell hT7.rf.c
          have hF7 := hT7.tm.lt
          have HDA1 := hide ((hT7.kept (Kp.drew none' _)).dueA o.t)
          rw [HD.out, HL1.out] at HDA1
          have HDB := hide (fun W (h : Ply w W p q F v L1 L) => h.dueB o.t (by omega))
          rw [HD.out, HL1.out] at HDB
          clear hT7
          go_upto_region 17 with fail
          go_cut [71] from 62 to 71 (fun t W => t = .bool false ∧ ∃ v1, Ply w W p q F v1 L1 L1)
          case rest =>
            obtain ⟨rfl, v1, hP⟩ := hcut
            have hL1 : L1.length ≤ i + 1 := by have := HLi.out; omega
            clear HDA1 HDB p1' p2'
            cases L1 with
            | nil =>
              have HNX := hide (tnext_none p F _ hP.tm)
              obtain ⟨ra, rc, er, hrc, hro⟩ := hP.rf.r.at
              have hcq := hP.rf.c
              rw [er] at hcq
              have HLN := fun n => hide (tlen_any p F [] _ (hP.kept (Kp.drewN none' _ n)).tm)
              have hb1 : ((0 : Int) != 0) = false := rfl
              have hb2 : ¬ ((0 : Int) < 0) := by omega
              have HP := hide hP
              clear hro er
              go_upto_region 20 with (go_at_call 18; refine HNX.out.mono ?_; clear HNX; rintro e w9 ⟨rfl, e9⟩; subst e9)
              go_quiet ((go_at_call 19; exact Calls.quiet_of_same ((HLN _).out)))
              go_wp2
              go_roundw
              case rel => exact ⟨i + 1, F, v1, [], by omega, by go_num, hL1, HP.out.kept (Kp.drewN none' _ _)⟩
              case measure => simp [intOf]; omega
            | cons z Z =>
              have HNX := hide (tnext_some p F z Z _ hP.tm)
              obtain ⟨zt, zi⟩ := z
              dsimp only at HNX
              go_upto_region 20 with (go_at_call 18; refine HNX.out.mono ?_; clear HNX; rintro e w10 ⟨rfl, d9, e9⟩; have hP10 := hP.kept (Kp.drewN none' _ d9); rw [← e9] at hP10; clear e9 hP)
              obtain ⟨ra, rc, er, hrc, hro⟩ := hP10.rf.r.at
              have hcq := hP10.rf.c
              rw [er] at hcq
              obtain ⟨rb, ro, ea, z0, z1⟩ := hro 0 (by simp)
              subst ea
              simp only [Nat.zero_mul, Nat.add_zero, List.getElem_cons_zero] at z0 z1
              obtain ⟨n1, Hn1⟩ : ∃ n1, Hid (((zt, zi) :: Z).length = n1) := ⟨_, rfl⟩
              have hn1 : 0 < n1 := by rw [← Hn1.out]; simp
              have hn2 : n1 ≤ 301 := by rw [← Hn1.out]; omega
              rw [Hn1.out] at hcq hrc
              have HLN := fun n => hide (tlen_any p F ((zt, zi) :: Z) _ (hP10.kept (Kp.drewN none' _ n)).tm)
              rw [Hn1.out] at HLN
              have hb1 : ((n1 : Int) != (n1 : Int)) = false := by simp
              have hb2 : (0 : Int) < (n1 : Int) := by omega
              have hb3 : (zt != zt) = false := by simp
              have hb4 : (zi != zi) = false := by simp
              have HP := hide hP10
              clear hro er hP10
              go_quiet ((go_at_call 19; exact Calls.quiet_of_same ((HLN _).out)))
              go_wp2
              go_roundw
              case rel => exact ⟨i + 1, F, v1, _, by omega, by go_num, hL1, HP.out.kept (Kp.drewN none' _ _)⟩
              case measure => simp [intOf]; omega
          case first =>
            go_region_with (first
              | (go_at_call 16; refine HDA1.out.mono ?_; rintro e w8 ⟨u1, rfl, o8, hT8, kx⟩; have r2 := kx.cell p2' hFob)
              | (go_at_call 17; refine (HDB.out _ hT8).mono ?_; rintro e w9 ⟨u2, rfl, o9, v1, hT9, k9⟩; have HSI := hide (sameInts_sl u1 u2 D _ _ w9 (o8.kept k9 (fun g hg e => by have h1 := (o8.lt g hg).1; have h2 : g = q := e; have h3 : w7.drew.heap.size = w7.heap.size := rfl; omega)).sl o9.sl hdl))
              | (go_at_call 15; refine HSI.out.mono ?_; rintro e w10 ⟨rfl, k10⟩; have hT10 := hT9.kept k10))
            all_goals go_wp2
            all_goals go_meet
            all_goals exact ⟨rfl, v1, hT10⟩
    · obtain rfl : i = S.length := by omega
      have HTA := hide (ttill_any p F L ask _ hT.tm)
      have HTB := hide (rtill_any q F v L ask _ hT.rf (by omega))
      obtain ⟨X, HX⟩ : ∃ X, Hid ((tillL ask L).getD 0 = X) := ⟨_, rfl⟩
      obtain ⟨Y, HY⟩ : ∃ Y, Hid ((tillL ask L).isSome = Y) := ⟨_, rfl⟩
      rw [HX.out, HY.out] at HTA HTB
      have hxx : (X == X) = true := by simp
      have hyy : (Y == Y) = true := by simp
      have hkp := hT.kp
      clear hT
      go_wp2_with (first
        | (go_at_call 20; refine HTA.out.mono ?_; clear HTA; rintro e w9 ⟨rfl, e9⟩; subst e9)
        | (go_at_call 21; refine HTB.out.mono ?_; clear HTB; rintro e w10 ⟨rfl, k10⟩))
      go_ret
      exact ⟨rfl, (hkp.then k10).grown⟩

end Go.Proofs.Ytpoahegccjgnjaa.timersPlay
