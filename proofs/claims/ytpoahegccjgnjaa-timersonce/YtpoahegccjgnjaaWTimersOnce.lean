/- The walk of the law TimersOnce. Conditions: those that the theorem states. -/
import Derived.Test.YtpoahegccjgnjaaYOnc
namespace Go.Proofs.Ytpoahegccjgnjaa.timersOnce
open Go.RowKit
set_option linter.unusedVariables false

set_option maxRecDepth 100000 in
set_option maxHeartbeats 12800000 in
theorem walk (a : Option Addr) (len cap : Nat) (L0 : List Tp) (w : World) (hB : Sts Tp.cells 3 (fun o _ => o.ok) w.heap.size w (.slice a len cap) L0) : Calls Try.prog 4 #[.slice a len cap] w fun e w' => e = .returned (.bool true) ∧ w.grownBy w' none := by
  obtain ⟨S, hL3, hmin, hLc, hlc, hcm, hscr⟩ := scr_of hB
  have HSC := hide hscr
  clear hB hscr
  have HV := hide (tlives_any w)
  have HE := hide (fun W => tearly_any a len cap W hlc hcm)
  rw [hmin] at HE
  clear hmin hlc hcm hLc
  go_enter Try.func4, Try.ntmps4
  go_upto_region 3 with (go_at_call 7; refine HV.out.mono ?_; clear HV; rintro e w1 ⟨rfl, k1⟩)
  have HN1 := fun W => hide (tnew_any W)
  go_upto_region 5 with (first
    | (go_at_call 8; refine (HE.out _).mono ?_; clear HE; rintro e w2 ⟨rfl, e2⟩; subst e2; have HA := HN1 w2; clear HN1)
    | (go_at_call 9; refine HA.out.mono ?_; clear HA; rintro e w3 ⟨p, F, rfl, ha3, fa, k3⟩))
  have T4 : Onc w w3 p F (.slice none 0 0) (.slice none 0 0) [] [] := ⟨ha3, Pr2.nil _ _, .nil, fun g hg => (by cases hg), fun g hg => (by cases hg), fun k hk => Nat.le_trans k1.size (fa k hk), k1.then k3⟩
  clear ha3 fa k3 k1
  go_wp2
  go_loopw [4, 5, 6] (fun u v t wr => ∃ (i : Nat) (F : Nat → Prop) (L Q : List (Int × Int)), i ≤ S.length ∧ t = .int .i64 i ∧ Q.length ≤ i ∧ Onc w wr p F u v L Q) (fun _ _ t _ => S.length - (intOf t).toNat)
  case atStart => exact ⟨0, F, [], [], Nat.zero_le _, rfl, Nat.le_refl _, T4⟩
  case round =>
    obtain ⟨i, F, L, Q, hi, rfl, hQi, hT⟩ := hrel
    clear T4
    have hQL := hT.pm.length_eq
    have hLl : L.length ≤ i := by omega
    have HQL := hide hQL
    clear hQL
    by_cases hlt : i < S.length
    · have hii : (i : Int) < (S.length : Int) := by omega
      obtain ⟨b, off, rfl, hbw, c0, c1, c2⟩ := HSC.out i hlt
      have d0 := hT.kp.cell c0 (fun h => h)
      have d1 := hT.kp.cell c1 (fun h => h)
      have d2 := hT.kp.cell c2 (fun h => h)
      obtain ⟨o, HO⟩ : ∃ o, Hid (S[i] = o) := ⟨_, hide rfl⟩
      rw [HO.out] at d0 d1 d2
      clear c0 c1 c2
      go_upto_region 11 with fail
      obtain ⟨W6, e6, k6, p0, p1, p2⟩ := new_step wr o
      rw [e6]
      have HKd := hide (kind_any o W6)
      unfold Tp.cells at HKd
      have hk3 := o.kd_lt
      obtain ⟨kd, Hkd⟩ : ∃ kd, Hid (o.kd = kd) := ⟨_, rfl⟩
      rw [Hkd.out] at HKd hk3
      have hT6 := hT.kept k6
      obtain ⟨ob, Hob⟩ : ∃ ob, Hid (wr.heap.size = ob) := ⟨_, rfl⟩
      rw [Hob.out] at p0 p1 p2 ⊢
      have hFob : ¬ F ob := fun hf => by have := hT.tm.lt ob hf; rw [← Hob.out] at this; omega
      clear hT d0 d1 d2
      by_cases hk2 : kd = 2
      · have hkb : ((kd : Int) == 2) = true := by rw [hk2]; rfl
        go_upto_region 12 with (go_at_call 10; refine HKd.out.mono ?_; clear HKd; rintro e w7 ⟨rfl, k7⟩)
        have hT7 := hT6.kept k7
        have p1' := k7.cell p1 (fun h => h)
        have p2' := k7.cell p2 (fun h => h)
        have HDU := hide (tdue_any p F L o.t w7 hT7.tm)
        clear p0 p1 p2 hT6
        go_upto_region 13 with (go_at_call 16; refine HDU.out.mono ?_; clear HDU; rintro e w8 ⟨du, rfl, o8, t8, k8⟩)
        have hP8 := hT7.pr.kept k8 hT7.fu hT7.fv
        have p2'' := k8.cell p2' hFob
        have hsr := hT7.tm.sorted
        have hid := hT7.tm.ids
        have hct : ∀ j (hj : j < Q.length), (dueL o.t L).count Q[j].2 = if Q[j].1 ≤ o.t then 1 else 0 := fun j hj => due_count hsr hid (hT7.pm.mem_iff.1 (List.getElem_mem hj))
        have hsum := due_len o.t L
        have hrf := rest_filter (now := o.t) hsr
        have hkp8 : Kp none' w w8 := hT7.kp.trans k8 (fun _ _ h => h) (fun k hl hf => by have := hT7.bd k hf; omega)
        have hbd := hide hT7.bd
        have hpm := hide hT7.pm
        have T8 := hide t8
        have HCT := hide hct
        have HRF := hide hrf
        have RU := hP8.ou.rd
        have RV := hP8.ov.rd
        have RD := o8.rd
        clear hct hrf hsr hid t8 hP8 o8 hT7 p1' k8 k7 p2'
        obtain ⟨D, HD⟩ : ∃ D, Hid (dueL o.t L = D) := ⟨_, rfl⟩
        rw [HD.out] at RD HCT hsum
        obtain ⟨au, cu, eu, hcu⟩ := RU
        obtain ⟨av, cv, ev, hcv⟩ := RV
        obtain ⟨ad, cd, ed, hcd⟩ := RD
        rw [List.length_map] at eu ev
        subst eu ev ed
        have HCU := hide hcu
        have HCV := hide hcv
        have HCD := hide hcd
        clear hcu hcv hcd
        have hDl : D.length ≤ 300 := by omega
        go_wp2
        go_loopw [9, 10, 11] (fun l t k wx => ∃ j : Nat, j ≤ Q.length ∧ k = .int .i64 j ∧ Pr2 wx w8.heap.size l t ((keepL o.t (Q.take j)).map (·.2)) ((keepL o.t (Q.take j)).map (·.1)) ∧ Kp none' w8 wx) (fun _ _ k _ => Q.length - (intOf k).toNat)
        case atStart => exact ⟨0, Nat.zero_le _, rfl, Pr2.nil _ _, Kp.refl _ _⟩
        case round =>
          obtain ⟨j, hj, rfl, hP, hK⟩ := hrel
          by_cases hjl : j < Q.length
          · have hji : (j : Int) < (Q.length : Int) := by omega
            obtain ⟨gu, eu, cgu⟩ := HCU.out j (by rw [List.length_map]; exact hjl)
            obtain ⟨gv, ev, cgv⟩ := HCV.out j (by rw [List.length_map]; exact hjl)
            subst eu ev
            rw [List.getElem_map] at cgu cgv
            have hcq := HCT.out j hjl
            have HKY := hide (fun h => keep_yes (t := o.t) hjl h)
            have HKN := hide (fun h => keep_no (t := o.t) hjl h)
            have hkl := keep_len (t := o.t) (Q := Q) j
            obtain ⟨q, HQ⟩ : ∃ q, Hid (Q[j] = q) := ⟨_, hide rfl⟩
            rw [HQ.out] at cgu cgv hcq HKY HKN
            obtain ⟨K0, HK0⟩ : ∃ K0, Hid (keepL o.t (Q.take j) = K0) := ⟨_, rfl⟩
            rw [HK0.out] at hP HKY HKN hkl
            obtain ⟨qt, qi⟩ := q
            dsimp only at cgu cgv hcq HKY HKN
            go_wp2
            go_loopw [12, 13] (fun n t wx => ∃ m c : Nat, m ≤ D.length ∧ t = .int .i64 m ∧ n = .int .i64 c ∧ c ≤ m ∧ Hid ((D.take m).count qi = c) ∧ Kp none' wr wx) (fun _ t _ => D.length - (intOf t).toNat)
            case atStart => exact ⟨0, 0, Nat.zero_le _, rfl, rfl, Nat.le_refl _, hide (by simp), Kp.refl _ _⟩
            case round =>
              obtain ⟨m, c, hm, rfl, rfl, hcm2, hC, hX⟩ := hrel
              have hK2 := hK.then hX
              by_cases hml : m < D.length
              · have hmi : (m : Int) < (D.length : Int) := by omega
                obtain ⟨gd, ed, cgd⟩ := HCD.out m hml
                subst ed
                have hst := count_step hml qi
                obtain ⟨z, HZ⟩ : ∃ z, Hid (D[m] = z) := ⟨_, hide rfl⟩
                rw [HZ.out] at cgd hst
                have dd := hK2.cell cgd (fun h => h)
                have du := hK2.cell cgu (fun h => h)
                by_cases hz : z = qi
                · have hbe : (z == qi) = true := by simpa using hz
                  have HST := hide hst
                  clear hst
                  go_upto_region 22 with fail
                  go_quiet (fail)
                  go_wp2
                  go_roundw
                  case rel => exact ⟨m + 1, c + 1, by omega, by go_num, by go_num, by omega, hide (by rw [HST.out, hC.out, if_pos hz]), hX.then (Kp.drewN _ _ _)⟩
                  case measure => simp [intOf]; omega
                · have hbe : (z == qi) = false := by simpa using hz
                  have HST := hide hst
                  clear hst
                  go_upto_region 22 with fail
                  go_quiet (fail)
                  go_wp2
                  go_roundw
                  case rel => exact ⟨m + 1, c, by omega, by go_num, rfl, by omega, hide (by rw [HST.out, hC.out, if_neg hz]; rfl), hX.then (Kp.drewN _ _ _)⟩
                  case measure => simp [intOf]; omega
              · obtain rfl : m = D.length := by omega
                have hcc := hC.out
                rw [List.take_length, hcq] at hcc
                have dt := hK2.cell cgv (fun h => h)
                have do2 := hK2.cell p2'' (fun h => h)
                have HPX := hide (hP.keptN hX)
                clear hP hX
                by_cases hle : qt ≤ o.t
                · rw [if_pos hle] at hcc
                  subst hcc
                  have hgt : ¬ o.t < qt := by omega
                  have h11 : ((1 : Int) != 1) = false := rfl
                  have h10 : ((1 : Int) == 0) = false := rfl
                  go_upto_region 24 with fail
                  go_quiet (fail)
                  go_wp2
                  go_roundw
                  case rel => exact ⟨j + 1, by omega, by go_num, by rw [HKN.out hle]; exact HPX.out.keptN (Kp.drewN _ _ _), hK2.then (Kp.drewN _ _ _)⟩
                  case measure => simp [intOf]; omega
                · rw [if_neg hle] at hcc
                  subst hcc
                  have hgt : o.t < qt := by omega
                  have h11 : ((0 : Int) != 0) = false := rfl
                  have h10 : ((0 : Int) == 0) = true := rfl
                  go_upto_region 24 with fail
                  go_quiet (fail)
                  go_upto_region 27 with fail
                  have hP5 := HPX.out.keptN (Kp.drewN none' wr nq)
                  have hK5 := hK2.then (Kp.drewN none' wr nq)
                  generalize wr.drewN nq = WX at hP5 hK5 ⊢
                  have du5 := hK5.cell cgu (fun h => h)
                  obtain ⟨l', wA, hrA, hPA, hkA, -⟩ := hP5.pushU qi hK5.size (by rw [List.length_map]; omega)
                  have hKA : Kp none' w8 wA := hK5.trans hkA (fun _ _ h => h) (fun k hl hk => by have := (hP5.ou.lt k hk).1; omega)
                  have dtA := hKA.cell cgv (fun h => h)
                  obtain ⟨t', wB, hrB, hPB, hkB, -⟩ := hPA.pushV qt hKA.size (by rw [List.length_map]; omega)
                  have hKB : Kp none' w8 wB := hKA.trans hkB (fun _ _ h => h) (fun k hl hk => by have := (hPA.ov.lt k hk).1; omega)
                  have HPB := hide hPB
                  clear hP5 hPA hPB hK5 hKA dt do2
                  go_upto_region 28 with (at_builtin; refine wpList_app_at rfl (.tmp 88) (.tmp 93) 37 37 rfl _ _ rfl rfl hrA ?_)
                  clear hrA
                  go_upto_region 17 with (at_builtin; refine wpList_app_at rfl (.tmp 95) (.tmp 100) 46 46 rfl _ _ rfl rfl hrB ?_)
                  clear hrB
                  replace hKB := hide hKB
                  go_wp2
                  go_roundw
                  case rel => exact ⟨j + 1, by omega, by go_num, by rw [HKY.out hgt, List.map_append, List.map_append]; exact HPB.out, hKB.out⟩
                  case measure => simp [intOf]; omega
          · obtain rfl : j = Q.length := by omega
            rw [List.take_length] at hP
            have hKp : (keepL o.t Q).Perm (restL o.t L) := by
              rw [HRF.out]
              exact hpm.out.filter _
            have hKl := hKp.length_eq
            obtain ⟨K, HK⟩ : ∃ K, Hid (keepL o.t Q = K) := ⟨_, rfl⟩
            rw [HK.out] at hP hKp hKl
            obtain ⟨R, HR⟩ : ∃ R, Hid (restL o.t L = R) := ⟨_, rfl⟩
            rw [HR.out] at hKp hKl hsum T8
            obtain ⟨al, cl, el, -⟩ := hP.ou.rd
            rw [List.length_map] at el
            have hfin : Onc w wr p F u9 u10 R K := ⟨T8.out.kept hK (fun _ _ h => h), hP.base hkp8.size, hKp, fun g hg hf => by have := (hP.ou.lt g hg).1; have := T8.out.lt g hf; omega, fun g hg hf => by have := (hP.ov.lt g hg).1; have := T8.out.lt g hf; omega, hbd.out, hkp8.then hK⟩
            subst el
            have HF := hide hfin
            have hne : ((D.length : Int) + (K.length : Int) != (Q.length : Int)) = false := by
              rw [bne_eq_false_iff_eq]
              have := HQL.out
              omega
            have hKi : K.length ≤ i + 1 := by have := HQL.out; omega
            clear hfin hP
            go_wp2
            go_roundw
            case rel => exact ⟨i + 1, F, R, K, by omega, by go_num, hKi, HF.out⟩
            case measure => simp [intOf]; omega
      · have hkb : ((kd : Int) == 2) = false := beq_eq_false_iff_ne.2 (by omega)
        go_upto_region 33 with (go_at_call 10; refine HKd.out.mono ?_; clear HKd; rintro e w7 ⟨rfl, k7⟩)
        have hT7 := hT6.kept k7
        have p0' := k7.cell p0 (fun h => h)
        have p1' := k7.cell p1 (fun h => h)
        have p2' := k7.cell p2 (fun h => h)
        clear p0 p1 p2 hT6 k7 k6
        have hob7 := lt_of_cell p1'
        have RU := hT7.pr.ou.rd
        have RV := hT7.pr.ov.rd
        obtain ⟨au, cu, eu, hcu⟩ := RU
        obtain ⟨av, cv, ev, hcv⟩ := RV
        have HT7 := hide hT7
        clear hT7
        rw [List.length_map] at eu ev
        subst eu ev
        have HCU := hide hcu
        have HCV := hide hcv
        clear hcu hcv
        go_wp2
        go_loopw [14, 15, 16] (fun l t k wx => ∃ j : Nat, j ≤ Q.length ∧ k = .int .i64 j ∧ Pr2 wx w7.heap.size l t ((dropL o.id (Q.take j)).map (·.2)) ((dropL o.id (Q.take j)).map (·.1)) ∧ Kp none' w7 wx) (fun _ _ k _ => Q.length - (intOf k).toNat)
        case atStart => exact ⟨0, Nat.zero_le _, rfl, Pr2.nil _ _, Kp.refl _ _⟩
        case round =>
          obtain ⟨j, hj, rfl, hP, hK⟩ := hrel
          by_cases hjl : j < Q.length
          · have hji : (j : Int) < (Q.length : Int) := by omega
            obtain ⟨gu, eu, cgu⟩ := HCU.out j (by rw [List.length_map]; exact hjl)
            obtain ⟨gv, ev, cgv⟩ := HCV.out j (by rw [List.length_map]; exact hjl)
            subst eu ev
            rw [List.getElem_map] at cgu cgv
            have HKY := hide (fun h => drop_yes (id := o.id) hjl h)
            have HKN := hide (fun h => drop_no (id := o.id) hjl h)
            have hkl := drop_len (id := o.id) (Q := Q) j
            obtain ⟨q, HQ⟩ : ∃ q, Hid (Q[j] = q) := ⟨_, hide rfl⟩
            rw [HQ.out] at cgu cgv HKY HKN
            obtain ⟨K0, HK0⟩ : ∃ K0, Hid (dropL o.id (Q.take j) = K0) := ⟨_, rfl⟩
            rw [HK0.out] at hP HKY HKN hkl
            obtain ⟨qt, qi⟩ := q
            dsimp only at cgu cgv HKY HKN
            have du := hK.cell cgu (fun h => h)
            have do1 := hK.cell p1' (fun h => h)
            by_cases hz : qi = o.id
            · have hbe : (qi != o.id) = false := by rw [bne_eq_false_iff_eq]; exact hz
              have HZ := hide hz
              clear hz
              go_upto_region 38 with fail
              go_quiet (fail)
              go_wp2
              go_roundw
              case rel => exact ⟨j + 1, by omega, by go_num, by rw [HKN.out HZ.out]; exact hP.keptN (Kp.drewN _ _ _), hK.then (Kp.drewN _ _ _)⟩
              case measure => simp [intOf]; omega
            · have hbe : (qi != o.id) = true := by rw [bne_iff_ne]; exact hz
              go_upto_region 38 with fail
              go_quiet (fail)
              go_upto_region 39 with fail
              have hP5 := hP.keptN (Kp.drewN none' wr nq)
              have hK5 := hK.then (Kp.drewN none' wr nq)
              generalize wr.drewN nq = WX at hP5 hK5 ⊢
              have du5 := hK5.cell cgu (fun h => h)
              obtain ⟨l', wA, hrA, hPA, hkA, -⟩ := hP5.pushU qi hK5.size (by rw [List.length_map]; omega)
              have hKA : Kp none' w7 wA := hK5.trans hkA (fun _ _ h => h) (fun k hl hk => by have := (hP5.ou.lt k hk).1; omega)
              have dtA := hKA.cell cgv (fun h => h)
              obtain ⟨t', wB, hrB, hPB, hkB, -⟩ := hPA.pushV qt hKA.size (by rw [List.length_map]; omega)
              have hKB : Kp none' w7 wB := hKA.trans hkB (fun _ _ h => h) (fun k hl hk => by have := (hPA.ov.lt k hk).1; omega)
              have HPB := hide hPB
              clear hP5 hPA hPB hK5 hKA hP
              go_upto_region 40 with (at_builtin; refine wpList_app_at rfl (.tmp 125) (.tmp 130) 37 37 rfl _ _ rfl rfl hrA ?_)
              clear hrA
              go_upto_region 37 with (at_builtin; refine wpList_app_at rfl (.tmp 132) (.tmp 137) 46 46 rfl _ _ rfl rfl hrB ?_)
              clear hrB
              replace hKB := hide hKB
              go_wp2
              go_roundw
              case rel => exact ⟨j + 1, by omega, by go_num, by rw [HKY.out hz, List.map_append, List.map_append]; exact HPB.out, hKB.out⟩
              case measure => simp [intOf]; omega
          · obtain rfl : j = Q.length := by omega
            rw [List.take_length] at hP
            have hdl := drop_len (id := o.id) (Q := Q) Q.length
            rw [List.take_length] at hdl
            have q0 := hK.cell p0' (fun h => h)
            have q1 := hK.cell p1' (fun h => h)
            have q2 := hK.cell p2' (fun h => h)
            have HK2 := hide (fun W => kind_any o W)
            unfold Tp.cells at HK2
            rw [Hkd.out] at HK2
            have hFlt : ∀ k, F k → k < w7.heap.size := HT7.out.tm.lt
            have hfu : ∀ g, u14.ownBlock = some g → ¬ F g := fun g hg hf => by have := (hP.ou.lt g hg).1; have := hFlt g hf; omega
            have hfv : ∀ g, u15.ownBlock = some g → ¬ F g := fun g hg hf => by have := (hP.ov.lt g hg).1; have := hFlt g hf; omega
            have htm := HT7.out.tm.kept hK (fun _ _ h => h)
            have hkpw : Kp none' w wr := HT7.out.kp.then hK
            have HFLT := hide hFlt
            have HFU := hide hfu
            have HFV := hide hfv
            clear hFlt hfu hfv p0' p1' p2'
            by_cases hk0 : kd = 0
            · have hkb0 : ((kd : Int) == 0) = true := by rw [hk0]; rfl
              go_upto_region 44 with (go_at_call 10; refine (HK2.out _).mono ?_; clear HK2; rintro e w8 ⟨rfl, k8⟩)
              have r1 := k8.cell q1 (fun h => h)
              have r2 := k8.cell q2 (fun h => h)
              have hP8 := hP.keptN k8
              have HSE := hide (tset_any p F L o.id o.t w8 (htm.kept k8 (fun _ _ h => h)) (by omega))
              go_upto_region 45 with (go_at_call 11; refine HSE.out.mono ?_; clear HSE; rintro e w9 ⟨rfl, F', t9, f1, f2, k9⟩)
              have hs8 := k8.size
              have hs7 := hK.size
              have hP9 := hP8.kept k9 HFU.out HFV.out
              have s1 := k9.cell r1 hFob
              have s2 := k9.cell r2 hFob
              have hkp9 : Kp none' w w9 := (hkpw.then k8).trans k9 (fun _ _ h => h) (fun k hl hf => by have := HT7.out.bd k hf; omega)
              have gu : ∀ g, u14.ownBlock = some g → ¬ F' g := fun g hg hf => by
                rcases f2 g hf with hf | hf
                · exact HFU.out g hg hf
                · have := (hP8.ou.lt g hg).2; omega
              have gv : ∀ g, u15.ownBlock = some g → ¬ F' g := fun g hg hf => by
                rcases f2 g hf with hf | hf
                · exact HFV.out g hg hf
                · have := (hP8.ov.lt g hg).2; omega
              have hbd' : ∀ k, F' k → w.heap.size ≤ k := fun k hf => by
                rcases f2 k hf with hf | hf
                · exact HT7.out.bd k hf
                · have := hkpw.size; omega
              have hb9 : w7.heap.size ≤ w9.heap.size := by have := k9.size; omega
              obtain ⟨l', wA, hrA, hPA, hkA, hnA⟩ := hP9.pushU o.id hb9 (by rw [List.length_map]; omega)
              have gu' : ∀ g, l'.ownBlock = some g → ¬ F' g := fun g hg hf => by
                rcases hnA with e | e
                · exact gu g (e ▸ hg) hf
                · rw [e] at hg; cases hg; have := t9.lt _ hf; omega
              have hob : ∀ v, (∃ e A, Ow (Value.int .i64) e w9 w7.heap.size v A) → v.ownBlock ≠ some ob := fun v hv e => by
                obtain ⟨e', A, ho⟩ := hv
                have := (ho.lt ob e).1
                omega
              have s2A := hkA.cell s2 (hob _ ⟨_, _, hP9.ou⟩)
              have tA := t9.kept hkA (fun k hf hk => gu k hk hf)
              obtain ⟨t', wB, hrB, hPB, hkB, hnB⟩ := hPA.pushV o.t (by have := hkA.size; omega) (by rw [List.length_map]; omega)
              have gv' : ∀ g, t'.ownBlock = some g → ¬ F' g := fun g hg hf => by
                rcases hnB with e | e
                · exact gv g (e ▸ hg) hf
                · rw [e] at hg; cases hg; have := tA.lt _ hf; omega
              have tB := tA.kept hkB (fun k hf hk => gv k hk hf)
              have hw7 := HT7.out.kp.size
              have hkpB : Kp none' w wB := (hkp9.trans hkA (fun _ _ h => h) (fun k hl hk => by have := (hP9.ou.lt k hk).1; omega)).trans hkB (fun _ _ h => h) (fun k hl hk => by have := (hPA.ov.lt k hk).1; omega)
              have hPB2 : Pr2 wB w.heap.size l' t' ((dropL o.id Q ++ [(o.t, o.id)]).map (·.2)) ((dropL o.id Q ++ [(o.t, o.id)]).map (·.1)) := by
                rw [List.map_append, List.map_append]
                exact hPB.base hw7
              have HF := hide (Onc.mk tB hPB2 (set_perm2 HT7.out.pm) gu' gv' hbd' hkpB)
              clear hPB2 hPB hPA hP9 hP8 hP tA tB t9 gu gv gu' gv' hbd' hkpB hkp9 q0 q1 q2 r1 r2 htm
              go_upto_region 46 with (at_builtin; refine wpList_app_at rfl (.tmp 150) (.tmp 153) 37 37 rfl _ _ rfl rfl hrA ?_)
              clear hrA
              go_wp2_with (at_builtin; refine wpList_app_at rfl (.tmp 155) (.tmp 158) 46 46 rfl _ _ rfl rfl hrB ?_)
              go_roundw
              case rel => exact ⟨i + 1, F', _, _, by omega, by go_num, by rw [List.length_append]; simp; omega, HF.out⟩
              case measure => simp [intOf]; omega
            · have hkb0 : ((kd : Int) == 0) = false := beq_eq_false_iff_ne.2 (by omega)
              go_upto_region 47 with (go_at_call 10; refine (HK2.out _).mono ?_; clear HK2; rintro e w8 ⟨rfl, k8⟩)
              have r1 := k8.cell q1 (fun h => h)
              have hP8 := hP.keptN k8
              have HDR := hide (tdrop_any p F L o.id w8 (htm.kept k8 (fun _ _ h => h)))
              have HP8 := hide hP8
              clear hP8 hP
              go_wp2_with (go_at_call 13; refine HDR.out.mono ?_; clear HDR; rintro e w9 ⟨rfl, t9, k9⟩)
              have hw7 := HT7.out.kp.size
              have hkp9 : Kp none' w w9 := (hkpw.then k8).trans k9 (fun _ _ h => h) (fun k hl hf => by have := HT7.out.bd k hf; omega)
              have HF : Onc w w9 p F u14 u15 (dropL o.id L) (dropL o.id Q) := ⟨t9, (HP8.out.kept k9 HFU.out HFV.out).base hw7, HT7.out.pm.filter _, HFU.out, HFV.out, HT7.out.bd, hkp9⟩
              go_roundw
              case rel => exact ⟨i + 1, F, _, _, by omega, by go_num, by omega, HF⟩
              case measure => simp [intOf]; omega
    · obtain rfl : i = S.length := by omega
      have HL := hide (tlen_any p F L _ hT.tm)
      have hq := hT.pr.ou.rd
      obtain ⟨au, cu, eu, -⟩ := hq
      rw [List.length_map] at eu
      rw [← HQL.out] at HL
      subst eu
      have hqq : ((Q.length : Int) == (Q.length : Int)) = true := by simp
      go_wp2_with (go_at_call 19; refine HL.out.mono ?_; clear HL; rintro e w9 ⟨rfl, e9⟩; subst e9)
      go_ret
      exact ⟨rfl, hT.kp.grown⟩

end Go.Proofs.Ytpoahegccjgnjaa.timersOnce
