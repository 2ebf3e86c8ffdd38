/- The walk of the law OutboxPlays. Conditions: those that the theorem states. -/
import Derived.Test.YtamgnpmkmlhadaaOPly
import Derived.Deep.CutBlock
namespace Go.Proofs.Ytamgnpmkmlhadaa.outboxPlays
open Go.RowKit
set_option linter.unusedVariables false

set_option maxRecDepth 100000 in
set_option maxHeartbeats 12800000 in
theorem walk (a : Option Addr) (len cap : Nat) (L0 : List Oo) (w : World) (hB : Sts Oo.cells 9 (fun o _ => o.ok) w.heap.size w (.slice a len cap) L0) : Calls Try.prog 4 #[.slice a len cap] w fun e w' => e = .returned (.bool true) ∧ w.grownBy w' none := by
  obtain ⟨S, hL3, hmin, hLc, hlc, hcm, hscr⟩ := scr_of hB
  have HSC := hide hscr
  clear hB hscr
  have HV := hide (olives_any w)
  have HE := hide (fun W => oearly_any a len cap W hlc hcm)
  rw [hmin] at HE
  clear hmin hlc hcm hLc
  go_enter Try.func4, Try.ntmps4
  go_upto_region 3 with (go_at_call 8; refine HV.out.mono ?_; clear HV; rintro e w1 ⟨rfl, k1⟩)
  have HN1 := fun W => hide (onew_any W)
  go_upto_region 5 with (first
    | (go_at_call 13; refine (HE.out _).mono ?_; clear HE; rintro e w2 ⟨rfl, e2⟩; subst e2; have HA := HN1 w2; clear HN1)
    | (go_at_call 14; refine HA.out.mono ?_; clear HA; rintro e w3 ⟨rfl, e3⟩; have T4 := Bp.new k1 e3; clear e3))
  obtain ⟨p, Hp⟩ : ∃ p, Hid (w2.heap.size = p) := ⟨_, rfl⟩
  obtain ⟨q, Hq⟩ : ∃ q, Hid (w3.heap.size = q) := ⟨_, rfl⟩
  obtain ⟨w4, Hw4⟩ : ∃ w4, Hid (w3.alloc (.cells #[.slice none 0 0, .int .i64 0, .int .i64 0] 41) = w4) := ⟨_, rfl⟩
  rw [Hp.out, Hq.out, Hw4.out] at T4
  try rw [Hp.out]
  rw [Hq.out, Hw4.out]
  clear k1
  go_wp2
  go_loopw [5] (fun t wr => ∃ (i A : Nat) (l : List Ms), i ≤ S.length ∧ t = .int .i64 i ∧ A + l.length ≤ i ∧ Bp w wr p q A l) (fun t _ => S.length - (intOf t).toNat)
  case atStart => exact ⟨0, 0, [], Nat.zero_le _, rfl, Nat.le_refl _, T4⟩
  case round =>
    obtain ⟨i, A, l, hi, rfl, hAi, hT⟩ := hrel
    clear T4
    by_cases hlt : i < S.length
    · have hii : (i : Int) < (S.length : Int) := by omega
      obtain ⟨b, off, rfl, hbw, cr, hok⟩ := HSC.out i hlt
      have dr := hT.kp.rangeAt cr (fun h => h)
      obtain ⟨o, HO⟩ : ∃ o, Hid (S[i] = o) := ⟨_, hide rfl⟩
      rw [HO.out] at dr hok
      have d0 := dr 0 _ rfl
      have d1 := dr 1 _ rfl
      have d2 := dr 2 _ rfl
      have d3 := dr 3 _ rfl
      have d4 := dr 4 _ rfl
      have d5 := dr 5 _ rfl
      have d6 := dr 6 _ rfl
      have d7 := dr 7 _ rfl
      have d8 := dr 8 _ rfl
      rw [Nat.add_zero] at d0
      clear dr cr
      go_upto_region 9 with fail
      obtain ⟨W6, e6, hT6⟩ := hT.step o
      rw [e6]
      have HKd := hide (okind_any o W6)
      unfold Oo.cells at HKd
      have hk3 := o.knd_lt
      obtain ⟨kd, Hkd⟩ : ∃ kd, Hid (o.knd = kd) := ⟨_, rfl⟩
      rw [Hkd.out] at HKd hk3
      obtain ⟨ob, Hob⟩ : ∃ ob, Hid (wr.heap.size = ob) := ⟨_, rfl⟩
      rw [Hob.out] at hT6 ⊢
      clear hT d0 d1 d2 d3 d4 d5 d6 d7 d8
      obtain ⟨p0, p1, p2, p3, p4, p5, p6, p7, p8⟩ := hT6.ob.cs
      go_upto_block 2 with (go_at_call 15; refine HKd.out.mono ?_; clear HKd; rintro e w7 ⟨rfl, k7⟩)
      have hT7 := hT6.keptN k7
      clear p0 p1 p2 p3 p4 p5 p6 p7 p8 hT6 k7 e6
      obtain ⟨p0, p1, p2, p3, p4, p5, p6, p7, p8⟩ := hT7.ob.cs
      obtain ⟨_, ho1, ho2, _, ho4, ho5, ho6⟩ := hok
      have hAl : A + l.length < 1000 := by omega
      go_cut [7, 8, 9, 10] from 18 to 120 (fun t7 t8 t9 t10 W => ∃ (A' : Nat) (l' : List Ms), A' + l'.length ≤ i + 1 ∧ Bp w W p q A' l')
      case first =>
        by_cases hk0 : kd = 0
        · have hkb : ((kd : Int) == 0) = true := by rw [hk0]; rfl
          clear hk0
          have HSA := hide (hT7.addA o.m.f o.m.t o.m.v ho4 ho5 ho6 hAl)
          unfold V.val at HSA
          go_upto_region 12 with (go_at_call 16; refine HSA.out.mono ?_; clear HSA; rintro e w8 ⟨rfl, hT8⟩)
          clear p0 p1 p2 p3 p4 p5 p6 p7 p8
          obtain ⟨p0, p1, p2, p3, p4, p5, p6, p7, p8⟩ := hT8.ob.cs
          have HSB := hide (hT8.addB hAl)
          unfold V.val at HSB
          go_upto_region 13 with (go_at_call 17; refine HSB.out.mono ?_; clear HSB; rintro e w9 ⟨rfl, hT9⟩)
          have hlx := xN_len A l o.m.f o.m.t o.m.v
          obtain ⟨X, HX⟩ : ∃ X, Hid (nN9 A l o.m.f o.m.t o.m.v = X) := ⟨_, rfl⟩
          obtain ⟨E, HE⟩ : ∃ X, Hid (eN9 A l o.m.f o.m.t o.m.v = X) := ⟨_, rfl⟩
          rw [HX.out, HE.out]
          have hx1 : (X != X) = false := by simp
          have hx2 : (E != E) = false := by simp
          have HP := hide hT9
          clear hT9 hT8 hT7
          go_wp2
          go_meet
          exact ⟨A, _, by omega, HP.out⟩
        · have hkb0 : ((kd : Int) == 0) = false := beq_eq_false_iff_ne.2 (by omega)
          by_cases hk1 : kd = 1
          · have hkb1 : ((kd : Int) == 1) = true := by rw [hk1]; rfl
            clear hk1
            have hsum := aN_sum A l o.n
            have HDA := hide ((hT7.keptN (Kp.drew none' w7)).ackA o.n ho1)
            have HDB := hide (fun W (h : Bq w W p q A l (aN A l o.n) (lN A l o.n) ob o) => h.ackB hT7.bp.rw9.1 hT7.bp.rw9.2)
            have HOb := hide hT7.ob
            obtain ⟨X, HX⟩ : ∃ X, Hid (ackE A l o.n = X) := ⟨_, rfl⟩
            rw [HX.out] at HDA HDB
            have hx1 : (X != X) = false := by simp
            clear hT7
            go_upto_region 16 with fail
            go_cut [78] from 70 to 78 (fun t W => t = .bool false ∧ Bp w W p q (aN A l o.n) (lN A l o.n))
            case rest =>
              obtain ⟨rfl, hP⟩ := hcut
              have HP := hide hP
              clear hP
              go_wp2
              go_meet
              exact ⟨_, _, by omega, HP.out⟩
            case first =>
              -- region 16
              refine wp_region_held_drew (S := fun W => Ob W ob o) (by kernel_rfl) (HOb.out.keptN (Kp.drew _ _)) (fun hHeld => ?_)
              refine take_ato (i := 0) (d := 70) (v := ?_) rfl rfl (by kernel_rfl) (by kernel_rfl) (by kernel_rfl) (fun _ _ _ h => h) (Or.inl ⟨by rfl, ?_⟩) (by assumption) ?_
              rotate_left
              · intro W hSW
                try dsimp only at hSW
                go_simp
                try with_reducible rfl
              try simp only [Act.put, List.setIfInBounds_toArray, List.set_cons_zero, List.set_cons_succ]
              refine take_ato (i := 1) (d := 71) (v := ?_) rfl rfl (by kernel_rfl) (by kernel_rfl) (by kernel_rfl) (fun _ _ _ h => h) (Or.inl ⟨by rfl, ?_⟩) (by assumption) ?_
              rotate_left
              · intro W hSW
                try dsimp only at hSW
                go_simp
                try with_reducible rfl
              try simp only [Act.put, List.setIfInBounds_toArray, List.set_cons_zero, List.set_cons_succ]
              refine take_ato (i := 2) (d := 72) (v := ?_) rfl rfl (by kernel_rfl) (by kernel_rfl) (by kernel_rfl) (fun _ _ _ h => h) (Or.inl ⟨by rfl, ?_⟩) (by assumption) ?_
              rotate_left
              · intro W hSW
                try dsimp only at hSW
                have y1 := (show Ob W ob o from hSW).cs.2.1
                go_simp
                try with_reducible rfl
              try simp only [Act.put, List.setIfInBounds_toArray, List.set_cons_zero, List.set_cons_succ]
              refine take_ato (i := 4) (d := 74) (v := ?_) rfl rfl (by kernel_rfl) (by kernel_rfl) (by kernel_rfl) (fun _ _ _ h => h) (Or.inl ⟨by rfl, ?_⟩) (by assumption) ?_
              rotate_left
              · intro W hSW
                try dsimp only at hSW
                go_simp
                try with_reducible rfl
              try simp only [Act.put, List.setIfInBounds_toArray, List.set_cons_zero, List.set_cons_succ]
              refine take_ato (i := 5) (d := 75) (v := ?_) rfl rfl (by kernel_rfl) (by kernel_rfl) (by kernel_rfl) (fun _ _ _ h => h) (Or.inl ⟨by rfl, ?_⟩) (by assumption) ?_
              rotate_left
              · intro W hSW
                try dsimp only at hSW
                go_simp
                try with_reducible rfl
              try simp only [Act.put, List.setIfInBounds_toArray, List.set_cons_zero, List.set_cons_succ]
              refine take_ato (i := 6) (d := 76) (v := ?_) rfl rfl (by kernel_rfl) (by kernel_rfl) (by kernel_rfl) (fun _ _ _ h => h) (Or.inl ⟨by rfl, ?_⟩) (by assumption) ?_
              rotate_left
              · intro W hSW
                try dsimp only at hSW
                have y1 := (show Ob W ob o from hSW).cs.2.1
                go_simp
                try with_reducible rfl
              try simp only [Act.put, List.setIfInBounds_toArray, List.set_cons_zero, List.set_cons_succ]
              refine wpAnyH_ready (rs := [3]) (by kernel_rfl) (by simp) ?_
              refine AllReadyH.cons rfl (fun K hK => ?_) ?_
              · go_simp
                go_at_call 18
                refine HDA.out.mono ?_
                clear HDA
                rintro e w8 ⟨rfl, hT8⟩
                refine hK.out _ _ (hT8.ob) (fun hHeld => ?_)
                clear hK K
                try simp only [Act.put, List.setIfInBounds_toArray, List.set_cons_zero, List.set_cons_succ]
                refine wpAnyH_ready (rs := [7]) (by kernel_rfl) (by simp) ?_
                refine AllReadyH.cons rfl (fun K hK => ?_) ?_
                · go_simp
                  go_at_call 19
                  refine (HDB.out _ hT8).mono ?_
                  clear HDB
                  rintro e w9 ⟨rfl, hT9, hb9⟩
                  refine hK.out _ _ (hb9) (fun hHeld => ?_)
                  clear hK K
                  try simp only [Act.put, List.setIfInBounds_toArray, List.set_cons_zero, List.set_cons_succ]
                  refine take_ato (i := 8) (d := 78) (v := ?_) rfl rfl (by kernel_rfl) (by kernel_rfl) (by kernel_rfl) (fun _ _ _ h => h) (Or.inl ⟨by rfl, ?_⟩) (by assumption) ?_
                  rotate_left
                  · intro W hSW
                    try dsimp only at hSW
                    go_simp
                    try with_reducible rfl
                  try simp only [Act.put, List.setIfInBounds_toArray, List.set_cons_zero, List.set_cons_succ]
                  refine wpAnyH_done (by kernel_rfl) ?_ _
                  go_wp2
                  go_meet
                  exact ⟨rfl, hT9⟩
                exact AllReadyH.nil
              exact AllReadyH.nil
              -- end 16
          · have hkb1 : ((kd : Int) == 1) = false := beq_eq_false_iff_ne.2 (by omega)
            have hkb2 : ((kd : Int) == 2) = true := by rw [show kd = 2 by omega]; rfl
            have HDA := hide ((hT7.keptN (Kp.drew none' w7)).bp.fromA o.n o.k ho1 ho2)
            have HDB := hide (fun W (k : Kp none' w7 W) => (hT7.keptN k).bp.fromB o.n o.k)
            have HOb := hide hT7.ob
            have hfl := frm_len A l o.n o.k
            obtain ⟨F, HF⟩ : ∃ X, Hid (frm A l o.n o.k = X) := ⟨_, rfl⟩
            rw [HF.out] at HDA HDB hfl
            have HT7 := hide hT7
            clear hT7
            go_upto_region 19 with fail
            go_cut [94] from 81 to 94 (fun t W => t = .bool false ∧ Kp none' w7 W)
            case rest =>
              obtain ⟨rfl, hP⟩ := hcut
              have HP := hide (HT7.out.keptN hP).bp
              clear hP
              go_wp2
              go_meet
              exact ⟨_, _, by omega, HP.out⟩
            case first =>
              -- region 19
              refine wp_region_held_drew (S := fun W => Ob W ob o) (by kernel_rfl) (HOb.out.keptN (Kp.drew _ _)) (fun hHeld => ?_)
              refine take_ato (i := 0) (d := 81) (v := ?_) rfl rfl (by kernel_rfl) (by kernel_rfl) (by kernel_rfl) (fun _ _ _ h => h) (Or.inl ⟨by rfl, ?_⟩) (by assumption) ?_
              rotate_left
              · intro W hSW
                try dsimp only at hSW
                go_simp
                try with_reducible rfl
              try simp only [Act.put, List.setIfInBounds_toArray, List.set_cons_zero, List.set_cons_succ]
              refine take_ato (i := 1) (d := 82) (v := ?_) rfl rfl (by kernel_rfl) (by kernel_rfl) (by kernel_rfl) (fun _ _ _ h => h) (Or.inl ⟨by rfl, ?_⟩) (by assumption) ?_
              rotate_left
              · intro W hSW
                try dsimp only at hSW
                go_simp
                try with_reducible rfl
              try simp only [Act.put, List.setIfInBounds_toArray, List.set_cons_zero, List.set_cons_succ]
              refine take_ato (i := 2) (d := 83) (v := ?_) rfl rfl (by kernel_rfl) (by kernel_rfl) (by kernel_rfl) (fun _ _ _ h => h) (Or.inl ⟨by rfl, ?_⟩) (by assumption) ?_
              rotate_left
              · intro W hSW
                try dsimp only at hSW
                have y1 := (show Ob W ob o from hSW).cs.2.1
                go_simp
                try with_reducible rfl
              try simp only [Act.put, List.setIfInBounds_toArray, List.set_cons_zero, List.set_cons_succ]
              refine take_ato (i := 3) (d := 84) (v := ?_) rfl rfl (by kernel_rfl) (by kernel_rfl) (by kernel_rfl) (fun _ _ _ h => h) (Or.inl ⟨by rfl, ?_⟩) (by assumption) ?_
              rotate_left
              · intro W hSW
                try dsimp only at hSW
                go_simp
                try with_reducible rfl
              try simp only [Act.put, List.setIfInBounds_toArray, List.set_cons_zero, List.set_cons_succ]
              refine take_ato (i := 4) (d := 85) (v := ?_) rfl rfl (by kernel_rfl) (by kernel_rfl) (by kernel_rfl) (fun _ _ _ h => h) (Or.inl ⟨by rfl, ?_⟩) (by assumption) ?_
              rotate_left
              · intro W hSW
                try dsimp only at hSW
                have y2 := (show Ob W ob o from hSW).cs.2.2.1
                go_simp
                try with_reducible rfl
              try simp only [Act.put, List.setIfInBounds_toArray, List.set_cons_zero, List.set_cons_succ]
              refine take_ato (i := 6) (d := 87) (v := ?_) rfl rfl (by kernel_rfl) (by kernel_rfl) (by kernel_rfl) (fun _ _ _ h => h) (Or.inl ⟨by rfl, ?_⟩) (by assumption) ?_
              rotate_left
              · intro W hSW
                try dsimp only at hSW
                go_simp
                try with_reducible rfl
              try simp only [Act.put, List.setIfInBounds_toArray, List.set_cons_zero, List.set_cons_succ]
              refine take_ato (i := 7) (d := 88) (v := ?_) rfl rfl (by kernel_rfl) (by kernel_rfl) (by kernel_rfl) (fun _ _ _ h => h) (Or.inl ⟨by rfl, ?_⟩) (by assumption) ?_
              rotate_left
              · intro W hSW
                try dsimp only at hSW
                go_simp
                try with_reducible rfl
              try simp only [Act.put, List.setIfInBounds_toArray, List.set_cons_zero, List.set_cons_succ]
              refine take_ato (i := 8) (d := 89) (v := ?_) rfl rfl (by kernel_rfl) (by kernel_rfl) (by kernel_rfl) (fun _ _ _ h => h) (Or.inl ⟨by rfl, ?_⟩) (by assumption) ?_
              rotate_left
              · intro W hSW
                try dsimp only at hSW
                have y1 := (show Ob W ob o from hSW).cs.2.1
                go_simp
                try with_reducible rfl
              try simp only [Act.put, List.setIfInBounds_toArray, List.set_cons_zero, List.set_cons_succ]
              refine take_ato (i := 9) (d := 90) (v := ?_) rfl rfl (by kernel_rfl) (by kernel_rfl) (by kernel_rfl) (fun _ _ _ h => h) (Or.inl ⟨by rfl, ?_⟩) (by assumption) ?_
              rotate_left
              · intro W hSW
                try dsimp only at hSW
                go_simp
                try with_reducible rfl
              try simp only [Act.put, List.setIfInBounds_toArray, List.set_cons_zero, List.set_cons_succ]
              refine take_ato (i := 10) (d := 91) (v := ?_) rfl rfl (by kernel_rfl) (by kernel_rfl) (by kernel_rfl) (fun _ _ _ h => h) (Or.inl ⟨by rfl, ?_⟩) (by assumption) ?_
              rotate_left
              · intro W hSW
                try dsimp only at hSW
                have y2 := (show Ob W ob o from hSW).cs.2.2.1
                go_simp
                try with_reducible rfl
              try simp only [Act.put, List.setIfInBounds_toArray, List.set_cons_zero, List.set_cons_succ]
              refine wpAnyH_ready (rs := [5]) (by kernel_rfl) (by simp) ?_
              refine AllReadyH.cons rfl (fun K hK => ?_) ?_
              · go_simp
                go_at_call 21
                refine HDA.out.mono ?_
                clear HDA
                rintro e w8 ⟨u1, rfl, o8, g8⟩
                have k8 := (Kp.drew none' w7).then (Kp.ofN g8 none')
                refine hK.out _ _ (HOb.out.keptN k8) (fun hHeld => ?_)
                clear hK K
                try simp only [Act.put, List.setIfInBounds_toArray, List.set_cons_zero, List.set_cons_succ]
                refine wpAnyH_ready (rs := [11]) (by kernel_rfl) (by simp) ?_
                refine AllReadyH.cons rfl (fun K hK => ?_) ?_
                · go_simp
                  go_at_call 22
                  refine (HDB.out _ k8).mono ?_
                  clear HDB
                  rintro e w9 ⟨u2, rfl, o9, g9⟩
                  have k9 := k8.then (Kp.ofN g9 none')
                  have HSI := hide (osame_any u1 u2 F w9 ((o8.rw clM).keptN g9) (o9.rw clM) (by omega))
                  refine hK.out _ _ (HOb.out.keptN k9) (fun hHeld => ?_)
                  clear hK K
                  try simp only [Act.put, List.setIfInBounds_toArray, List.set_cons_zero, List.set_cons_succ]
                  refine wpAnyH_ready (rs := [12]) (by kernel_rfl) (by simp) ?_
                  refine AllReadyH.cons rfl (fun K hK => ?_) ?_
                  · go_simp
                    go_at_call 20
                    refine HSI.out.mono ?_
                    clear HSI
                    rintro e w10 ⟨rfl, g10⟩
                    have k10 := k9.then (Kp.ofN g10 none')
                    refine hK.out _ _ (HOb.out.keptN k10) (fun hHeld => ?_)
                    clear hK K
                    try simp only [Act.put, List.setIfInBounds_toArray, List.set_cons_zero, List.set_cons_succ]
                    refine take_ato (i := 13) (d := 94) (v := ?_) rfl rfl (by kernel_rfl) (by kernel_rfl) (by kernel_rfl) (fun _ _ _ h => h) (Or.inl ⟨by rfl, ?_⟩) (by assumption) ?_
                    rotate_left
                    · intro W hSW
                      try dsimp only at hSW
                      go_simp
                      try with_reducible rfl
                    try simp only [Act.put, List.setIfInBounds_toArray, List.set_cons_zero, List.set_cons_succ]
                    refine wpAnyH_done (by kernel_rfl) ?_ _
                    go_wp2
                    go_meet
                    exact ⟨rfl, k10⟩
                  exact AllReadyH.nil
                exact AllReadyH.nil
              exact AllReadyH.nil
              -- end 19
      case rest =>
        obtain ⟨A', l', hAl', hP⟩ := hcut
        clear hT7 p0 p1 p2 p3 p4 p5 p6 p7 p8 ho1 ho2 ho4 ho5 ho6
        have HP := hide hP
        obtain ⟨v, g, v2, g2, hB⟩ := hP
        have c0 := hB.qx.c0
        have c1 := hB.qx.c1
        have c2 := hB.qx.c2
        obtain ⟨ra, rc, er, _, _⟩ := hB.qx.ow.len
        subst er
        have H1 := fun n => hide (omark_any _ (hB.bx.keptN (Kp.drewN none' _ n)))
        have H2 := fun n => hide (olast_any _ (hB.bx.keptN (Kp.drewN none' _ n)))
        have H3 := fun n => hide (olen_any _ (hB.bx.keptN (Kp.drewN none' _ n)))
        have hx1 : ((A' : Int) != (A' : Int)) = false := by simp
        have hx2 : ((A' : Int) + (l'.length : Int) != (A' : Int) + (l'.length : Int)) = false := by simp
        have hx3 : ((l'.length : Int) != (l'.length : Int)) = false := by simp
        clear hB
        go_upto_region 21 with fail
        go_quiet (first
          | (go_at_call 23; exact Calls.quiet_of_same ((H1 _).out))
          | (go_at_call 24; exact Calls.quiet_of_same ((H2 _).out))
          | (go_at_call 25; exact Calls.quiet_of_same ((H3 _).out)))
        go_wp2
        go_roundw
        case rel => exact ⟨i + 1, A', l', by omega, by go_num, hAl', HP.out.keptN (Kp.drewN none' _ _)⟩
        case measure => simp [intOf]; omega
    · have hii : ¬ (i : Int) < (S.length : Int) := by omega
      have hkp := hT.kp
      clear hT
      go_wp2
      go_ret
      exact ⟨rfl, hkp.grown⟩

end Go.Proofs.Ytamgnpmkmlhadaa.outboxPlays
