/- The walk of the law OutboxDense. Conditions: those that the theorem states. -/
import Derived.Test.YtamgnpmkmlhadaaODn
import Derived.Deep.CutBlock
namespace Go.Proofs.Ytamgnpmkmlhadaa.outboxDense
open Go.RowKit
set_option linter.unusedVariables false

set_option maxRecDepth 100000 in
set_option maxHeartbeats 12800000 in
theorem walk (a : Option Addr) (len cap : Nat) (L0 : List Oo) (w : World) (hB : Sts Oo.cells 9 (fun o _ => o.ok) w.heap.size w (.slice a len cap) L0) : Calls Try.prog 5 #[.slice a len cap] w fun e w' => e = .returned (.bool true) ∧ w.grownBy w' none := by
  obtain ⟨S, hL3, hmin, hLc, hlc, hcm, hscr⟩ := scr_of hB
  have HSC := hide hscr
  clear hB hscr
  have HV := hide (olives_any w)
  have HE := hide (fun W => oearly_any a len cap W hlc hcm)
  rw [hmin] at HE
  clear hmin hlc hcm hLc
  go_enter Try.func5, Try.ntmps5
  go_upto_region 3 with (go_at_call 8; refine HV.out.mono ?_; clear HV; rintro e w1 ⟨rfl, k1⟩)
  have HN1 := fun W => hide (onew_any W)
  go_upto_region 5 with (first
    | (go_at_call 13; refine (HE.out _).mono ?_; clear HE; rintro e w2 ⟨rfl, e2⟩; subst e2; have HA := HN1 w2; clear HN1)
    | (go_at_call 14; refine HA.out.mono ?_; clear HA; rintro e w3 ⟨rfl, e3⟩; have T4 := Dl.new k1 e3; clear e3))
  obtain ⟨p, Hp⟩ : ∃ p, Hid (w2.heap.size = p) := ⟨_, rfl⟩
  rw [Hp.out] at T4
  try rw [Hp.out]
  clear k1
  go_wp2
  go_loopw [4, 5, 6] (fun t4 t5 t wr => ∃ (i A : Nat) (D : List Ms), i ≤ S.length ∧ t = .int .i64 i ∧ t5 = .int .i64 (A : Int) ∧ A ≤ D.length ∧ D.length ≤ i ∧ Dl w wr p A (D.drop A) t4 D) (fun _ _ t _ => S.length - (intOf t).toNat)
  case atStart => exact ⟨0, 0, [], Nat.zero_le _, rfl, rfl, Nat.le_refl _, Nat.le_refl _, T4⟩
  case round =>
    obtain ⟨i, A, D, hi, rfl, rfl, hAD, hDi, hT⟩ := hrel
    clear T4
    by_cases hlt : i < S.length
    · have hii : (i : Int) < (S.length : Int) := by omega
      obtain ⟨b, off, rfl, hbw, cr, hok⟩ := HSC.out i hlt
      have dr := hT.kp.rangeAt cr (fun h => h)
      obtain ⟨o, HO⟩ : ∃ o, Hid (S[i] = o) := ⟨_, hide rfl⟩
      rw [HO.out] at dr hok
      have d0 := dr 0 _ rfl
      have d1 := dr 1 _ rfl
      have d2 := dr 2 _ rfl
      have d3 := dr 3 _ rfl
      have d4 := dr 4 _ rfl
      have d5 := dr 5 _ rfl
      have d6 := dr 6 _ rfl
      have d7 := dr 7 _ rfl
      have d8 := dr 8 _ rfl
      rw [Nat.add_zero] at d0
      clear dr cr
      obtain ⟨ad, cd, rfl⟩ := hT.slc
      obtain ⟨N, HN⟩ : ∃ N, Hid (D.length = N) := ⟨_, rfl⟩
      have hAL : (A : Int) + ((D.drop A).length : Int) = (N : Int) := by rw [List.length_drop, ← HN.out]; omega
      have hFW := drop_add (D := D) hAD
      have hAK := drop_ack (D := D) hAD
      rw [HN.out] at hT hAD hDi hAK ⊢
      go_upto_region 11 with fail
      obtain ⟨W6, e6, hT6⟩ := hT.step o
      rw [e6]
      have HKd := hide (okind_any o W6)
      unfold Oo.cells at HKd
      have hk3 := o.knd_lt
      obtain ⟨kd, Hkd⟩ : ∃ kd, Hid (o.knd = kd) := ⟨_, rfl⟩
      rw [Hkd.out] at HKd hk3
      obtain ⟨ob, Hob⟩ : ∃ ob, Hid (wr.heap.size = ob) := ⟨_, rfl⟩
      rw [Hob.out] at hT6 ⊢
      clear hT d0 d1 d2 d3 d4 d5 d6 d7 d8
      obtain ⟨p0, p1, p2, p3, p4, p5, p6, p7, p8⟩ := hT6.ob.cs
      go_upto_block 2 with (go_at_call 15; refine HKd.out.mono ?_; clear HKd; rintro e w7 ⟨rfl, k7⟩)
      have hT7 := hT6.keptN k7
      clear p0 p1 p2 p3 p4 p5 p6 p7 p8 hT6 k7 e6
      obtain ⟨p0, p1, p2, p3, p4, p5, p6, p7, p8⟩ := hT7.ob.cs
      obtain ⟨_, ho1, ho2, _, ho4, ho5, ho6⟩ := hok
      go_cut [4, 5, 8, 9, 10] from 16 to 109 (fun t4 t5 t8 t9 t10 W => ∃ (A' : Nat) (D' : List Ms), A' ≤ D'.length ∧ D'.length ≤ i + 1 ∧ t5 = .int .i64 (A' : Int) ∧ Dl w W p A' (D'.drop A') t4 D')
      case first =>
        by_cases hk0 : kd = 0
        · have hkb : ((kd : Int) == 0) = true := by rw [hk0]; rfl
          clear hk0
          have HSA0 := hT7.add o.m.f o.m.t o.m.v ho4 ho5 ho6 (by omega)
          unfold V.val nN9 eN9 xN at HSA0
          cases hok : okM (nxM A (D.drop A) o.m.f o.m.t o.m.v) with
          | true =>
            rw [hok, if_pos rfl, if_pos rfl, if_pos rfl, hAL] at HSA0
            have HSA := hide HSA0
            clear HSA0
            go_upto_region 14 with (go_at_call 16; refine HSA.out.mono ?_; clear HSA; rintro e w8 ⟨rfl, hT8⟩)
            clear p0 p1 p2 p3 p4 p5 p6 p7 p8
            obtain ⟨p0, p1, p2, p3, p4, p5, p6, p7, p8⟩ := hT8.ob.cs
            obtain ⟨v', w', hr, hd⟩ := hT8.app (nxM A (D.drop A) o.m.f o.m.t o.m.v) (by rw [HN.out]; omega)
            have hl2 : (D ++ [nxM A (D.drop A) o.m.f o.m.t o.m.v]).length = N + 1 := by rw [List.length_append, HN.out]; rfl
            rw [← hFW] at hd
            obtain ⟨D2, HD2⟩ : ∃ X, Hid (D ++ [nxM A (D.drop A) o.m.f o.m.t o.m.v] = X) := ⟨_, rfl⟩
            rw [HD2.out] at hd hl2
            unfold nxM at hr
            dsimp only at hr
            rw [hAL] at hr
            obtain ⟨a9, c9, rfl⟩ := hd.slc
            rw [hl2] at hd hr
            have HD := hide hd
            have HL2 := hide hl2
            have hx1 : ((N : Int) + 1 != ((N + 1 : Nat) : Int)) = false := by simp
            have hx2 : ((N : Int) + 1 != (N : Int) + 1) = false := by simp
            clear hd hl2 hT8 hT7 hAL hFW hAK
            go_upto_region 15 with fail
            go_wp2_with (at_builtin; refine wpList_app_at rfl (.tmp 46) (.tmp 58) 39 39 rfl _ _ rfl rfl hr ?_)
            go_meet
            exact ⟨A, D2, by rw [HL2.out]; omega, by rw [HL2.out]; omega, rfl, HD.out⟩
          | false =>
            rw [hok, if_neg (by decide), if_neg (by decide), if_neg (by decide)] at HSA0
            have HSA := hide HSA0
            clear HSA0 hAL hFW hAK
            go_upto_region 14 with (go_at_call 16; refine HSA.out.mono ?_; clear HSA; rintro e w8 ⟨rfl, hT8⟩)
            have HD := hide hT8.dl
            clear hT8 hT7
            go_wp2
            go_meet
            exact ⟨A, D, by rw [HN.out]; exact hAD, by rw [HN.out]; omega, rfl, by rw [HN.out] at *; exact HD.out⟩
        · have hkb0 : ((kd : Int) == 0) = false := beq_eq_false_iff_ne.2 (by omega)
          by_cases hk1 : kd = 1
          · have hkb1 : ((kd : Int) == 1) = true := by rw [hk1]; rfl
            clear hk1 hk0
            have HSA0 := hT7.ack o.n ho1
            obtain ⟨hl1, hA1, hA2⟩ := hAK o.n
            rw [hl1] at HSA0
            by_cases hz : o.n ≤ (N : Int)
            · have e1 : ackE A (D.drop A) o.n = 0 := by unfold ackE; rw [hAL, if_neg (by omega)]
              have e2 : ((aN A (D.drop A) o.n : Nat) : Int) = max (A : Int) o.n := by unfold aN; rw [hAL, if_neg (by omega)]; omega
              rw [e1] at HSA0
              have HSA := hide HSA0
              obtain ⟨A1, HA1⟩ : ∃ X, Hid (aN A (D.drop A) o.n = X) := ⟨_, rfl⟩
              rw [HA1.out] at hA1 hA2 e2 HSA
              have HE2 := hide e2
              clear HSA0 hAL hFW hAK e1 e2 hl1
              go_upto_region 20 with (go_at_call 18; refine HSA.out.mono ?_; clear HSA; rintro e w8 ⟨rfl, hT8⟩)
              clear p0 p1 p2 p3 p4 p5 p6 p7 p8
              obtain ⟨p0, p1, p2, p3, p4, p5, p6, p7, p8⟩ := hT8.ob.cs
              have HD := hide hT8.dl
              clear hT8 hT7
              by_cases hmx : (A : Int) < o.n
              · go_wp2
                go_meet
                exact ⟨A1, D, by rw [HN.out]; exact hA2, by rw [HN.out]; omega, by rw [HE2.out]; congr 1; omega, by rw [HN.out] at *; exact HD.out⟩
              · go_wp2
                go_meet
                exact ⟨A1, D, by rw [HN.out]; exact hA2, by rw [HN.out]; omega, by rw [HE2.out]; congr 1; omega, by rw [HN.out] at *; exact HD.out⟩
            · have e1 : ackE A (D.drop A) o.n = 7 := by unfold ackE; rw [hAL, if_pos (by omega)]
              have e2 : aN A (D.drop A) o.n = A := by unfold aN; rw [hAL, if_pos (by omega)]
              rw [e1, e2] at HSA0
              have HSA := hide HSA0
              clear HSA0 hAL hFW hAK e1 e2 hl1 hA1 hA2
              go_upto_region 20 with (go_at_call 18; refine HSA.out.mono ?_; clear HSA; rintro e w8 ⟨rfl, hT8⟩)
              clear p0 p1 p2 p3 p4 p5 p6 p7 p8
              obtain ⟨p0, p1, p2, p3, p4, p5, p6, p7, p8⟩ := hT8.ob.cs
              have HD := hide hT8.dl
              clear hT8 hT7
              go_wp2
              go_meet
              exact ⟨A, D, by rw [HN.out]; exact hAD, by rw [HN.out]; omega, rfl, by rw [HN.out] at *; exact HD.out⟩
          · have hkb1 : ((kd : Int) == 1) = false := beq_eq_false_iff_ne.2 (by omega)
            have HD := hide hT7.dl
            clear hT7 hAL hFW hAK
            go_wp2
            go_meet
            exact ⟨A, D, by rw [HN.out]; exact hAD, by rw [HN.out]; omega, rfl, by rw [HN.out] at *; exact HD.out⟩
      case rest =>
        obtain ⟨A', D', hA', hD', rfl, hP⟩ := hcut
        clear hT7 p0 p1 p2 p3 p4 p5 p6 p7 p8 ho1 ho2 ho4 ho5 ho6 hAL hFW hAK
        have hlim : D'.length ≤ 1000000 := by omega
        obtain ⟨ae, ce, rfl⟩ := hP.slc
        have HP := hide hP
        obtain ⟨v, g, hB⟩ := hP
        have hsh := hB.ow.shape
        have hrw := hB.ow.rw clM
        have hcm : D'.length ≤ ce ∧ ce ≤ maxLen := by
          obtain ⟨_, _, e, h1, h2, _⟩ := hrw
          cases e
          exact ⟨h1, h2⟩
        have hB1 := (hB.keptN (Kp.drew none' wc)).bx
        have H1 := hide (omark_any _ hB1)
        have H2' := olast_any _ hB1
        have H3' := ofrom_any 0 (D'.length : Int) _ hB1 (by unfold ir; omega) (by unfold ir; omega)
        have hAL : (A' : Int) + ((D'.drop A').length : Int) = (D'.length : Int) := by rw [List.length_drop]; omega
        rw [hAL] at H2'
        rw [frm_all A' _ _ (by rw [List.length_drop]; omega)] at H3'
        have H2 := hide H2'
        have H3 := hide H3'
        have hFl : (D'.drop A').length ≤ 1000000 := by rw [List.length_drop]; omega
        clear hB hB1 H2' H3' hAL
        have hsl : ∃ sv, (∀ W, Kp none' wc W → RwM W sv (D'.drop A')) ∧ ((ae = none ∧ D'.length = 0 ∧ A' = 0 ∧ ce = 0 ∧ sv = .slice none 0 0) ∨ ∃ r, ae = some ⟨r, 0, none⟩ ∧ ((A' = ce ∧ D'.length = ce ∧ sv = .slice (some ⟨r, 0, none⟩) 0 0) ∨ (¬ A' = ce ∧ sv = .slice (some ⟨r, A' * 6, none⟩) (D'.length - A') (ce - A')))) := by
          rcases hsh with ⟨e, e2⟩ | ⟨r, c, e, _⟩
          · cases e2
            cases e
            have : A' = 0 := by simpa using hA'
            subst this
            exact ⟨_, fun W k => Rw.nil _ _ W, .inl ⟨rfl, rfl, rfl, rfl, rfl⟩⟩
          · cases e
            by_cases hc : A' = ce
            · refine ⟨_, fun W k => ?_, .inr ⟨r, rfl, .inl ⟨hc, by omega, rfl⟩⟩⟩
              rw [List.drop_of_length_le (by omega)]
              exact ⟨_, 0, rfl, Nat.le_refl _, Nat.zero_le _, fun i hi => by simp at hi⟩
            · refine ⟨_, fun W k => ?_, .inr ⟨r, rfl, .inr ⟨hc, rfl⟩⟩⟩
              have h1 := (hrw.keptN k.grown).dropM A' hA'
              rw [show (some (⟨r, 0, none⟩ : Addr)).map (fun x => x.add (A' * 6)) = some ⟨r, A' * 6, none⟩ by simp [addr_plainO]] at h1
              exact h1
        obtain ⟨sv, hsv, hcs⟩ := hsl
        have HSL := hide hsv
        clear hsv hrw hsh
        have c2 : (A' : Int) ≤ (D'.length : Int) := by omega
        have c3 : (A' : Int) ≤ (ce : Int) := by omega
        unfold maxLen at hcm
        obtain ⟨F, HF⟩ : ∃ X, Hid (D'.drop A' = X) := ⟨_, rfl⟩
        rw [HF.out] at HSL H3 hFl HP
        obtain ⟨M, HM⟩ : ∃ X, Hid (D'.length = X) := ⟨_, rfl⟩
        rw [HM.out] at hcs hcm c2 hA' hD' hlim H2 H3 HP ⊢
        have hx1 : ((A' : Int) != (A' : Int)) = false := by simp
        have hx2 : ((M : Int) != (M : Int)) = false := by simp
        rcases hcs with ⟨rfl, rfl, rfl, rfl, rfl⟩ | ⟨r, rfl, ⟨hc, rfl, rfl⟩ | ⟨hc, rfl⟩⟩
        · skip
          go_upto_region 24 with fail
          go_cut [109] from 88 to 109 (fun t W => t = .bool false ∧ Kp none' wc W)
          case rest =>
            obtain ⟨rfl, hk⟩ := hcut
            have HP2 := hide (HP.out.keptN hk)
            clear H1 H2 H3 hk HP
            go_wp2
            go_roundw
            case rel => exact ⟨i + 1, _, D', by omega, by go_num, rfl, by rw [HM.out]; omega, by rw [HM.out]; omega, by rw [HF.out]; exact HP2.out⟩
            case measure => simp [intOf]; omega
          case first =>
            refine wp_region_held_drew (S := fun W => True) (by kernel_rfl) (trivial) (fun hHeld => ?_)
            refine take_ato (i := 0) (d := 88) (v := ?_) rfl rfl (by kernel_rfl) (by kernel_rfl) (by kernel_rfl) (fun _ _ _ h => h) (Or.inl ⟨by rfl, ?_⟩) (by assumption) ?_
            rotate_left
            · intro W hSW
              try dsimp only at hSW
              go_simp
              try with_reducible rfl
            try simp only [Act.put, List.setIfInBounds_toArray, List.set_cons_zero, List.set_cons_succ]
            refine take_ato (i := 2) (d := 90) (v := ?_) rfl rfl (by kernel_rfl) (by kernel_rfl) (by kernel_rfl) (fun _ _ _ h => h) (Or.inl ⟨by rfl, ?_⟩) (by assumption) ?_
            rotate_left
            · intro W hSW
              try dsimp only at hSW
              go_simp
              try with_reducible rfl
            try simp only [Act.put, List.setIfInBounds_toArray, List.set_cons_zero, List.set_cons_succ]
            refine wpAnyH_ready (rs := [1]) (by kernel_rfl) (by simp) ?_
            refine AllReadyH.cons rfl (fun K hK => ?_) ?_
            · go_simp
              go_at_call 23
              refine H1.out.mono ?_
              clear H1
              rintro e w7 ⟨rfl, e7⟩
              subst e7
              refine hK.out _ _ (trivial) (fun hHeld => ?_)
              clear hK K
              try simp only [Act.put, List.setIfInBounds_toArray, List.set_cons_zero, List.set_cons_succ]
              refine take_ato (i := 3) (d := 91) (v := ?_) rfl rfl (by kernel_rfl) (by kernel_rfl) (by kernel_rfl) (fun _ _ _ h => h) (Or.inl ⟨by rfl, ?_⟩) (by assumption) ?_
              rotate_left
              · intro W hSW
                try dsimp only at hSW
                go_simp
                try with_reducible rfl
              try simp only [Act.put, List.setIfInBounds_toArray, List.set_cons_zero, List.set_cons_succ]
              refine take_ato (i := 4) (d := 92) (v := ?_) rfl rfl (by kernel_rfl) (by kernel_rfl) (by kernel_rfl) (fun _ _ _ h => h) (Or.inl ⟨by rfl, ?_⟩) (by assumption) ?_
              rotate_left
              · intro W hSW
                try dsimp only at hSW
                go_simp
                try with_reducible rfl
              try simp only [Act.put, List.setIfInBounds_toArray, List.set_cons_zero, List.set_cons_succ]
              refine take_ato (i := 5) (d := 93) (v := ?_) rfl rfl (by kernel_rfl) (by kernel_rfl) (by kernel_rfl) (fun _ _ _ h => h) (Or.inl ⟨by rfl, ?_⟩) (by assumption) ?_
              rotate_left
              · intro W hSW
                try dsimp only at hSW
                go_simp
                try with_reducible rfl
              try simp only [Act.put, List.setIfInBounds_toArray, List.set_cons_zero, List.set_cons_succ]
              refine take_ato (i := 7) (d := 95) (v := ?_) rfl rfl (by kernel_rfl) (by kernel_rfl) (by kernel_rfl) (fun _ _ _ h => h) (Or.inl ⟨by rfl, ?_⟩) (by assumption) ?_
              rotate_left
              · intro W hSW
                try dsimp only at hSW
                go_simp
                try with_reducible rfl
              try simp only [Act.put, List.setIfInBounds_toArray, List.set_cons_zero, List.set_cons_succ]
              refine take_ato (i := 8) (d := 96) (v := ?_) rfl rfl (by kernel_rfl) (by kernel_rfl) (by kernel_rfl) (fun _ _ _ h => h) (Or.inl ⟨by rfl, ?_⟩) (by assumption) ?_
              rotate_left
              · intro W hSW
                try dsimp only at hSW
                go_simp
                try with_reducible rfl
              try simp only [Act.put, List.setIfInBounds_toArray, List.set_cons_zero, List.set_cons_succ]
              refine wpAnyH_ready (rs := [6]) (by kernel_rfl) (by simp) ?_
              refine AllReadyH.cons rfl (fun K hK => ?_) ?_
              · go_simp
                go_at_call 24
                refine H2.out.mono ?_
                clear H2
                rintro e w7 ⟨rfl, e7⟩
                subst e7
                refine hK.out _ _ (trivial) (fun hHeld => ?_)
                clear hK K
                try simp only [Act.put, List.setIfInBounds_toArray, List.set_cons_zero, List.set_cons_succ]
                refine take_ato (i := 9) (d := 97) (v := ?_) rfl rfl (by kernel_rfl) (by kernel_rfl) (by kernel_rfl) (fun _ _ _ h => h) (Or.inl ⟨by rfl, ?_⟩) (by assumption) ?_
                rotate_left
                · intro W hSW
                  try dsimp only at hSW
                  go_simp
                  try with_reducible rfl
                try simp only [Act.put, List.setIfInBounds_toArray, List.set_cons_zero, List.set_cons_succ]
                refine take_ato (i := 10) (d := 98) (v := ?_) rfl rfl (by kernel_rfl) (by kernel_rfl) (by kernel_rfl) (fun _ _ _ h => h) (Or.inl ⟨by rfl, ?_⟩) (by assumption) ?_
                rotate_left
                · intro W hSW
                  try dsimp only at hSW
                  go_simp
                  try with_reducible rfl
                try simp only [Act.put, List.setIfInBounds_toArray, List.set_cons_zero, List.set_cons_succ]
                refine take_ato (i := 11) (d := 99) (v := ?_) rfl rfl (by kernel_rfl) (by kernel_rfl) (by kernel_rfl) (fun _ _ _ h => h) (Or.inl ⟨by rfl, ?_⟩) (by assumption) ?_
                rotate_left
                · intro W hSW
                  try dsimp only at hSW
                  go_simp
                  try with_reducible rfl
                try simp only [Act.put, List.setIfInBounds_toArray, List.set_cons_zero, List.set_cons_succ]
                refine take_ato (i := 12) (d := 100) (v := ?_) rfl rfl (by kernel_rfl) (by kernel_rfl) (by kernel_rfl) (fun _ _ _ h => h) (Or.inl ⟨by rfl, ?_⟩) (by assumption) ?_
                rotate_left
                · intro W hSW
                  try dsimp only at hSW
                  go_simp
                  try with_reducible rfl
                try simp only [Act.put, List.setIfInBounds_toArray, List.set_cons_zero, List.set_cons_succ]
                refine take_ato (i := 13) (d := 101) (v := ?_) rfl rfl (by kernel_rfl) (by kernel_rfl) (by kernel_rfl) (fun _ _ _ h => h) (Or.inl ⟨by rfl, ?_⟩) (by assumption) ?_
                rotate_left
                · intro W hSW
                  try dsimp only at hSW
                  go_simp
                  try with_reducible rfl
                try simp only [Act.put, List.setIfInBounds_toArray, List.set_cons_zero, List.set_cons_succ]
                refine take_ato (i := 14) (d := 102) (v := ?_) rfl rfl (by kernel_rfl) (by kernel_rfl) (by kernel_rfl) (fun _ _ _ h => h) (Or.inl ⟨by rfl, ?_⟩) (by assumption) ?_
                rotate_left
                · intro W hSW
                  try dsimp only at hSW
                  go_simp
                  try with_reducible rfl
                try simp only [Act.put, List.setIfInBounds_toArray, List.set_cons_zero, List.set_cons_succ]
                refine take_ato (i := 16) (d := 104) (v := ?_) rfl rfl (by kernel_rfl) (by kernel_rfl) (by kernel_rfl) (fun _ _ _ h => h) (Or.inl ⟨by rfl, ?_⟩) (by assumption) ?_
                rotate_left
                · intro W hSW
                  try dsimp only at hSW
                  go_simp
                  try with_reducible rfl
                try simp only [Act.put, List.setIfInBounds_toArray, List.set_cons_zero, List.set_cons_succ]
                refine take_ato (i := 17) (d := 105) (v := ?_) rfl rfl (by kernel_rfl) (by kernel_rfl) (by kernel_rfl) (fun _ _ _ h => h) (Or.inl ⟨by rfl, ?_⟩) (by assumption) ?_
                rotate_left
                · intro W hSW
                  try dsimp only at hSW
                  go_simp
                  try with_reducible rfl
                try simp only [Act.put, List.setIfInBounds_toArray, List.set_cons_zero, List.set_cons_succ]
                refine take_ato (i := 18) (d := 106) (v := ?_) rfl rfl (by kernel_rfl) (by kernel_rfl) (by kernel_rfl) (fun _ _ _ h => h) (Or.inl ⟨by rfl, ?_⟩) (by assumption) ?_
                rotate_left
                · intro W hSW
                  try dsimp only at hSW
                  go_simp
                  try with_reducible rfl
                try simp only [Act.put, List.setIfInBounds_toArray, List.set_cons_zero, List.set_cons_succ]
                refine wpAnyH_ready (rs := [15]) (by kernel_rfl) (by simp) ?_
                refine AllReadyH.cons rfl (fun K hK => ?_) ?_
                · go_simp
                  go_at_call 21
                  refine H3.out.mono ?_
                  clear H3
                  rintro e w8 ⟨⟨u1, rfl, o8⟩, g8⟩
                  have k8 := (Kp.drew none' wc).then (Kp.ofN g8 none')
                  have HSI := hide (osame_any u1 _ F w8 (o8.rw clM) (HSL.out w8 k8) hFl)
                  refine hK.out _ _ (trivial) (fun hHeld => ?_)
                  clear hK K
                  try simp only [Act.put, List.setIfInBounds_toArray, List.set_cons_zero, List.set_cons_succ]
                  refine wpAnyH_ready (rs := [19]) (by kernel_rfl) (by simp) ?_
                  refine AllReadyH.cons rfl (fun K hK => ?_) ?_
                  · go_simp
                    go_at_call 20
                    refine HSI.out.mono ?_
                    clear HSI
                    rintro e w9 ⟨rfl, g9⟩
                    have k9 := k8.then (Kp.ofN g9 none')
                    refine hK.out _ _ (trivial) (fun hHeld => ?_)
                    clear hK K
                    try simp only [Act.put, List.setIfInBounds_toArray, List.set_cons_zero, List.set_cons_succ]
                    refine take_ato (i := 20) (d := 108) (v := ?_) rfl rfl (by kernel_rfl) (by kernel_rfl) (by kernel_rfl) (fun _ _ _ h => h) (Or.inl ⟨by rfl, ?_⟩) (by assumption) ?_
                    rotate_left
                    · intro W hSW
                      try dsimp only at hSW
                      go_simp
                      try with_reducible rfl
                    try simp only [Act.put, List.setIfInBounds_toArray, List.set_cons_zero, List.set_cons_succ]
                    refine take_ato (i := 21) (d := 109) (v := ?_) rfl rfl (by kernel_rfl) (by kernel_rfl) (by kernel_rfl) (fun _ _ _ h => h) (Or.inl ⟨by rfl, ?_⟩) (by assumption) ?_
                    rotate_left
                    · intro W hSW
                      try dsimp only at hSW
                      go_simp
                      try with_reducible rfl
                    try simp only [Act.put, List.setIfInBounds_toArray, List.set_cons_zero, List.set_cons_succ]
                    refine wpAnyH_done (by kernel_rfl) ?_ _
                    go_wp2
                    go_meet
                    exact ⟨rfl, k9⟩
                  exact AllReadyH.nil
                exact AllReadyH.nil
              exact AllReadyH.nil
            exact AllReadyH.nil
        · subst hc
          go_upto_region 24 with fail
          go_cut [109] from 88 to 109 (fun t W => t = .bool false ∧ Kp none' wc W)
          case rest =>
            obtain ⟨rfl, hk⟩ := hcut
            have HP2 := hide (HP.out.keptN hk)
            clear H1 H2 H3 hk HP
            go_wp2
            go_roundw
            case rel => exact ⟨i + 1, _, D', by omega, by go_num, rfl, by rw [HM.out]; omega, by rw [HM.out]; omega, by rw [HF.out]; exact HP2.out⟩
            case measure => simp [intOf]; omega
          case first =>
            refine wp_region_held_drew (S := fun W => True) (by kernel_rfl) (trivial) (fun hHeld => ?_)
            refine take_ato (i := 0) (d := 88) (v := ?_) rfl rfl (by kernel_rfl) (by kernel_rfl) (by kernel_rfl) (fun _ _ _ h => h) (Or.inl ⟨by rfl, ?_⟩) (by assumption) ?_
            rotate_left
            · intro W hSW
              try dsimp only at hSW
              go_simp
              try with_reducible rfl
            try simp only [Act.put, List.setIfInBounds_toArray, List.set_cons_zero, List.set_cons_succ]
            refine take_ato (i := 2) (d := 90) (v := ?_) rfl rfl (by kernel_rfl) (by kernel_rfl) (by kernel_rfl) (fun _ _ _ h => h) (Or.inl ⟨by rfl, ?_⟩) (by assumption) ?_
            rotate_left
            · intro W hSW
              try dsimp only at hSW
              go_simp
              try with_reducible rfl
            try simp only [Act.put, List.setIfInBounds_toArray, List.set_cons_zero, List.set_cons_succ]
            refine wpAnyH_ready (rs := [1]) (by kernel_rfl) (by simp) ?_
            refine AllReadyH.cons rfl (fun K hK => ?_) ?_
            · go_simp
              go_at_call 23
              refine H1.out.mono ?_
              clear H1
              rintro e w7 ⟨rfl, e7⟩
              subst e7
              refine hK.out _ _ (trivial) (fun hHeld => ?_)
              clear hK K
              try simp only [Act.put, List.setIfInBounds_toArray, List.set_cons_zero, List.set_cons_succ]
              refine take_ato (i := 3) (d := 91) (v := ?_) rfl rfl (by kernel_rfl) (by kernel_rfl) (by kernel_rfl) (fun _ _ _ h => h) (Or.inl ⟨by rfl, ?_⟩) (by assumption) ?_
              rotate_left
              · intro W hSW
                try dsimp only at hSW
                go_simp
                try with_reducible rfl
              try simp only [Act.put, List.setIfInBounds_toArray, List.set_cons_zero, List.set_cons_succ]
              refine take_ato (i := 4) (d := 92) (v := ?_) rfl rfl (by kernel_rfl) (by kernel_rfl) (by kernel_rfl) (fun _ _ _ h => h) (Or.inl ⟨by rfl, ?_⟩) (by assumption) ?_
              rotate_left
              · intro W hSW
                try dsimp only at hSW
                go_simp
                try with_reducible rfl
              try simp only [Act.put, List.setIfInBounds_toArray, List.set_cons_zero, List.set_cons_succ]
              refine take_ato (i := 5) (d := 93) (v := ?_) rfl rfl (by kernel_rfl) (by kernel_rfl) (by kernel_rfl) (fun _ _ _ h => h) (Or.inl ⟨by rfl, ?_⟩) (by assumption) ?_
              rotate_left
              · intro W hSW
                try dsimp only at hSW
                go_simp
                try with_reducible rfl
              try simp only [Act.put, List.setIfInBounds_toArray, List.set_cons_zero, List.set_cons_succ]
              refine take_ato (i := 7) (d := 95) (v := ?_) rfl rfl (by kernel_rfl) (by kernel_rfl) (by kernel_rfl) (fun _ _ _ h => h) (Or.inl ⟨by rfl, ?_⟩) (by assumption) ?_
              rotate_left
              · intro W hSW
                try dsimp only at hSW
                go_simp
                try with_reducible rfl
              try simp only [Act.put, List.setIfInBounds_toArray, List.set_cons_zero, List.set_cons_succ]
              refine take_ato (i := 8) (d := 96) (v := ?_) rfl rfl (by kernel_rfl) (by kernel_rfl) (by kernel_rfl) (fun _ _ _ h => h) (Or.inl ⟨by rfl, ?_⟩) (by assumption) ?_
              rotate_left
              · intro W hSW
                try dsimp only at hSW
                go_simp
                try with_reducible rfl
              try simp only [Act.put, List.setIfInBounds_toArray, List.set_cons_zero, List.set_cons_succ]
              refine wpAnyH_ready (rs := [6]) (by kernel_rfl) (by simp) ?_
              refine AllReadyH.cons rfl (fun K hK => ?_) ?_
              · go_simp
                go_at_call 24
                refine H2.out.mono ?_
                clear H2
                rintro e w7 ⟨rfl, e7⟩
                subst e7
                refine hK.out _ _ (trivial) (fun hHeld => ?_)
                clear hK K
                try simp only [Act.put, List.setIfInBounds_toArray, List.set_cons_zero, List.set_cons_succ]
                refine take_ato (i := 9) (d := 97) (v := ?_) rfl rfl (by kernel_rfl) (by kernel_rfl) (by kernel_rfl) (fun _ _ _ h => h) (Or.inl ⟨by rfl, ?_⟩) (by assumption) ?_
                rotate_left
                · intro W hSW
                  try dsimp only at hSW
                  go_simp
                  try with_reducible rfl
                try simp only [Act.put, List.setIfInBounds_toArray, List.set_cons_zero, List.set_cons_succ]
                refine take_ato (i := 10) (d := 98) (v := ?_) rfl rfl (by kernel_rfl) (by kernel_rfl) (by kernel_rfl) (fun _ _ _ h => h) (Or.inl ⟨by rfl, ?_⟩) (by assumption) ?_
                rotate_left
                · intro W hSW
                  try dsimp only at hSW
                  go_simp
                  try with_reducible rfl
                try simp only [Act.put, List.setIfInBounds_toArray, List.set_cons_zero, List.set_cons_succ]
                refine take_ato (i := 11) (d := 99) (v := ?_) rfl rfl (by kernel_rfl) (by kernel_rfl) (by kernel_rfl) (fun _ _ _ h => h) (Or.inl ⟨by rfl, ?_⟩) (by assumption) ?_
                rotate_left
                · intro W hSW
                  try dsimp only at hSW
                  go_simp
                  try with_reducible rfl
                try simp only [Act.put, List.setIfInBounds_toArray, List.set_cons_zero, List.set_cons_succ]
                refine take_ato (i := 12) (d := 100) (v := ?_) rfl rfl (by kernel_rfl) (by kernel_rfl) (by kernel_rfl) (fun _ _ _ h => h) (Or.inl ⟨by rfl, ?_⟩) (by assumption) ?_
                rotate_left
                · intro W hSW
                  try dsimp only at hSW
                  go_simp
                  try with_reducible rfl
                try simp only [Act.put, List.setIfInBounds_toArray, List.set_cons_zero, List.set_cons_succ]
                refine take_ato (i := 13) (d := 101) (v := ?_) rfl rfl (by kernel_rfl) (by kernel_rfl) (by kernel_rfl) (fun _ _ _ h => h) (Or.inl ⟨by rfl, ?_⟩) (by assumption) ?_
                rotate_left
                · intro W hSW
                  try dsimp only at hSW
                  go_simp
                  try with_reducible rfl
                try simp only [Act.put, List.setIfInBounds_toArray, List.set_cons_zero, List.set_cons_succ]
                refine take_ato (i := 14) (d := 102) (v := ?_) rfl rfl (by kernel_rfl) (by kernel_rfl) (by kernel_rfl) (fun _ _ _ h => h) (Or.inl ⟨by rfl, ?_⟩) (by assumption) ?_
                rotate_left
                · intro W hSW
                  try dsimp only at hSW
                  go_simp
                  try with_reducible rfl
                try simp only [Act.put, List.setIfInBounds_toArray, List.set_cons_zero, List.set_cons_succ]
                refine take_ato (i := 16) (d := 104) (v := ?_) rfl rfl (by kernel_rfl) (by kernel_rfl) (by kernel_rfl) (fun _ _ _ h => h) (Or.inl ⟨by rfl, ?_⟩) (by assumption) ?_
                rotate_left
                · intro W hSW
                  try dsimp only at hSW
                  go_simp
                  try with_reducible rfl
                try simp only [Act.put, List.setIfInBounds_toArray, List.set_cons_zero, List.set_cons_succ]
                refine take_ato (i := 17) (d := 105) (v := ?_) rfl rfl (by kernel_rfl) (by kernel_rfl) (by kernel_rfl) (fun _ _ _ h => h) (Or.inl ⟨by rfl, ?_⟩) (by assumption) ?_
                rotate_left
                · intro W hSW
                  try dsimp only at hSW
                  go_simp
                  try with_reducible rfl
                try simp only [Act.put, List.setIfInBounds_toArray, List.set_cons_zero, List.set_cons_succ]
                refine take_ato (i := 18) (d := 106) (v := ?_) rfl rfl (by kernel_rfl) (by kernel_rfl) (by kernel_rfl) (fun _ _ _ h => h) (Or.inl ⟨by rfl, ?_⟩) (by assumption) ?_
                rotate_left
                · intro W hSW
                  try dsimp only at hSW
                  go_simp
                  try with_reducible rfl
                try simp only [Act.put, List.setIfInBounds_toArray, List.set_cons_zero, List.set_cons_succ]
                refine wpAnyH_ready (rs := [15]) (by kernel_rfl) (by simp) ?_
                refine AllReadyH.cons rfl (fun K hK => ?_) ?_
                · go_simp
                  go_at_call 21
                  refine H3.out.mono ?_
                  clear H3
                  rintro e w8 ⟨⟨u1, rfl, o8⟩, g8⟩
                  have k8 := (Kp.drew none' wc).then (Kp.ofN g8 none')
                  have HSI := hide (osame_any u1 _ F w8 (o8.rw clM) (HSL.out w8 k8) hFl)
                  refine hK.out _ _ (trivial) (fun hHeld => ?_)
                  clear hK K
                  try simp only [Act.put, List.setIfInBounds_toArray, List.set_cons_zero, List.set_cons_succ]
                  refine wpAnyH_ready (rs := [19]) (by kernel_rfl) (by simp) ?_
                  refine AllReadyH.cons rfl (fun K hK => ?_) ?_
                  · go_simp
                    go_at_call 20
                    refine HSI.out.mono ?_
                    clear HSI
                    rintro e w9 ⟨rfl, g9⟩
                    have k9 := k8.then (Kp.ofN g9 none')
                    refine hK.out _ _ (trivial) (fun hHeld => ?_)
                    clear hK K
                    try simp only [Act.put, List.setIfInBounds_toArray, List.set_cons_zero, List.set_cons_succ]
                    refine take_ato (i := 20) (d := 108) (v := ?_) rfl rfl (by kernel_rfl) (by kernel_rfl) (by kernel_rfl) (fun _ _ _ h => h) (Or.inl ⟨by rfl, ?_⟩) (by assumption) ?_
                    rotate_left
                    · intro W hSW
                      try dsimp only at hSW
                      go_simp
                      try with_reducible rfl
                    try simp only [Act.put, List.setIfInBounds_toArray, List.set_cons_zero, List.set_cons_succ]
                    refine take_ato (i := 21) (d := 109) (v := ?_) rfl rfl (by kernel_rfl) (by kernel_rfl) (by kernel_rfl) (fun _ _ _ h => h) (Or.inl ⟨by rfl, ?_⟩) (by assumption) ?_
                    rotate_left
                    · intro W hSW
                      try dsimp only at hSW
                      go_simp
                      try with_reducible rfl
                    try simp only [Act.put, List.setIfInBounds_toArray, List.set_cons_zero, List.set_cons_succ]
                    refine wpAnyH_done (by kernel_rfl) ?_ _
                    go_wp2
                    go_meet
                    exact ⟨rfl, k9⟩
                  exact AllReadyH.nil
                exact AllReadyH.nil
              exact AllReadyH.nil
            exact AllReadyH.nil
        · have hc2 : ¬ ce = A' := fun e => hc e.symm
          go_upto_region 24 with fail
          go_cut [109] from 88 to 109 (fun t W => t = .bool false ∧ Kp none' wc W)
          case rest =>
            obtain ⟨rfl, hk⟩ := hcut
            have HP2 := hide (HP.out.keptN hk)
            clear H1 H2 H3 hk HP
            go_wp2
            go_roundw
            case rel => exact ⟨i + 1, _, D', by omega, by go_num, rfl, by rw [HM.out]; omega, by rw [HM.out]; omega, by rw [HF.out]; exact HP2.out⟩
            case measure => simp [intOf]; omega
          case first =>
            refine wp_region_held_drew (S := fun W => True) (by kernel_rfl) (trivial) (fun hHeld => ?_)
            refine take_ato (i := 0) (d := 88) (v := ?_) rfl rfl (by kernel_rfl) (by kernel_rfl) (by kernel_rfl) (fun _ _ _ h => h) (Or.inl ⟨by rfl, ?_⟩) (by assumption) ?_
            rotate_left
            · intro W hSW
              try dsimp only at hSW
              go_simp
              try with_reducible rfl
            try simp only [Act.put, List.setIfInBounds_toArray, List.set_cons_zero, List.set_cons_succ]
            refine take_ato (i := 2) (d := 90) (v := ?_) rfl rfl (by kernel_rfl) (by kernel_rfl) (by kernel_rfl) (fun _ _ _ h => h) (Or.inl ⟨by rfl, ?_⟩) (by assumption) ?_
            rotate_left
            · intro W hSW
              try dsimp only at hSW
              go_simp
              try with_reducible rfl
            try simp only [Act.put, List.setIfInBounds_toArray, List.set_cons_zero, List.set_cons_succ]
            refine wpAnyH_ready (rs := [1]) (by kernel_rfl) (by simp) ?_
            refine AllReadyH.cons rfl (fun K hK => ?_) ?_
            · go_simp
              go_at_call 23
              refine H1.out.mono ?_
              clear H1
              rintro e w7 ⟨rfl, e7⟩
              subst e7
              refine hK.out _ _ (trivial) (fun hHeld => ?_)
              clear hK K
              try simp only [Act.put, List.setIfInBounds_toArray, List.set_cons_zero, List.set_cons_succ]
              refine take_ato (i := 3) (d := 91) (v := ?_) rfl rfl (by kernel_rfl) (by kernel_rfl) (by kernel_rfl) (fun _ _ _ h => h) (Or.inl ⟨by rfl, ?_⟩) (by assumption) ?_
              rotate_left
              · intro W hSW
                try dsimp only at hSW
                go_simp
                try with_reducible rfl
              try simp only [Act.put, List.setIfInBounds_toArray, List.set_cons_zero, List.set_cons_succ]
              refine take_ato (i := 4) (d := 92) (v := ?_) rfl rfl (by kernel_rfl) (by kernel_rfl) (by kernel_rfl) (fun _ _ _ h => h) (Or.inl ⟨by rfl, ?_⟩) (by assumption) ?_
              rotate_left
              · intro W hSW
                try dsimp only at hSW
                go_simp
                try with_reducible rfl
              try simp only [Act.put, List.setIfInBounds_toArray, List.set_cons_zero, List.set_cons_succ]
              refine take_ato (i := 5) (d := 93) (v := ?_) rfl rfl (by kernel_rfl) (by kernel_rfl) (by kernel_rfl) (fun _ _ _ h => h) (Or.inl ⟨by rfl, ?_⟩) (by assumption) ?_
              rotate_left
              · intro W hSW
                try dsimp only at hSW
                go_simp
                try with_reducible rfl
              try simp only [Act.put, List.setIfInBounds_toArray, List.set_cons_zero, List.set_cons_succ]
              refine take_ato (i := 7) (d := 95) (v := ?_) rfl rfl (by kernel_rfl) (by kernel_rfl) (by kernel_rfl) (fun _ _ _ h => h) (Or.inl ⟨by rfl, ?_⟩) (by assumption) ?_
              rotate_left
              · intro W hSW
                try dsimp only at hSW
                go_simp
                try with_reducible rfl
              try simp only [Act.put, List.setIfInBounds_toArray, List.set_cons_zero, List.set_cons_succ]
              refine take_ato (i := 8) (d := 96) (v := ?_) rfl rfl (by kernel_rfl) (by kernel_rfl) (by kernel_rfl) (fun _ _ _ h => h) (Or.inl ⟨by rfl, ?_⟩) (by assumption) ?_
              rotate_left
              · intro W hSW
                try dsimp only at hSW
                go_simp
                try with_reducible rfl
              try simp only [Act.put, List.setIfInBounds_toArray, List.set_cons_zero, List.set_cons_succ]
              refine wpAnyH_ready (rs := [6]) (by kernel_rfl) (by simp) ?_
              refine AllReadyH.cons rfl (fun K hK => ?_) ?_
              · go_simp
                go_at_call 24
                refine H2.out.mono ?_
                clear H2
                rintro e w7 ⟨rfl, e7⟩
                subst e7
                refine hK.out _ _ (trivial) (fun hHeld => ?_)
                clear hK K
                try simp only [Act.put, List.setIfInBounds_toArray, List.set_cons_zero, List.set_cons_succ]
                refine take_ato (i := 9) (d := 97) (v := ?_) rfl rfl (by kernel_rfl) (by kernel_rfl) (by kernel_rfl) (fun _ _ _ h => h) (Or.inl ⟨by rfl, ?_⟩) (by assumption) ?_
                rotate_left
                · intro W hSW
                  try dsimp only at hSW
                  go_simp
                  try with_reducible rfl
                try simp only [Act.put, List.setIfInBounds_toArray, List.set_cons_zero, List.set_cons_succ]
                refine take_ato (i := 10) (d := 98) (v := ?_) rfl rfl (by kernel_rfl) (by kernel_rfl) (by kernel_rfl) (fun _ _ _ h => h) (Or.inl ⟨by rfl, ?_⟩) (by assumption) ?_
                rotate_left
                · intro W hSW
                  try dsimp only at hSW
                  go_simp
                  try with_reducible rfl
                try simp only [Act.put, List.setIfInBounds_toArray, List.set_cons_zero, List.set_cons_succ]
                refine take_ato (i := 11) (d := 99) (v := ?_) rfl rfl (by kernel_rfl) (by kernel_rfl) (by kernel_rfl) (fun _ _ _ h => h) (Or.inl ⟨by rfl, ?_⟩) (by assumption) ?_
                rotate_left
                · intro W hSW
                  try dsimp only at hSW
                  go_simp
                  try with_reducible rfl
                try simp only [Act.put, List.setIfInBounds_toArray, List.set_cons_zero, List.set_cons_succ]
                refine take_ato (i := 12) (d := 100) (v := ?_) rfl rfl (by kernel_rfl) (by kernel_rfl) (by kernel_rfl) (fun _ _ _ h => h) (Or.inl ⟨by rfl, ?_⟩) (by assumption) ?_
                rotate_left
                · intro W hSW
                  try dsimp only at hSW
                  go_simp
                  try with_reducible rfl
                try simp only [Act.put, List.setIfInBounds_toArray, List.set_cons_zero, List.set_cons_succ]
                refine take_ato (i := 13) (d := 101) (v := ?_) rfl rfl (by kernel_rfl) (by kernel_rfl) (by kernel_rfl) (fun _ _ _ h => h) (Or.inl ⟨by rfl, ?_⟩) (by assumption) ?_
                rotate_left
                · intro W hSW
                  try dsimp only at hSW
                  go_simp
                  try with_reducible rfl
                try simp only [Act.put, List.setIfInBounds_toArray, List.set_cons_zero, List.set_cons_succ]
                refine take_ato (i := 14) (d := 102) (v := ?_) rfl rfl (by kernel_rfl) (by kernel_rfl) (by kernel_rfl) (fun _ _ _ h => h) (Or.inl ⟨by rfl, ?_⟩) (by assumption) ?_
                rotate_left
                · intro W hSW
                  try dsimp only at hSW
                  go_simp
                  try with_reducible rfl
                try simp only [Act.put, List.setIfInBounds_toArray, List.set_cons_zero, List.set_cons_succ]
                refine take_ato (i := 16) (d := 104) (v := ?_) rfl rfl (by kernel_rfl) (by kernel_rfl) (by kernel_rfl) (fun _ _ _ h => h) (Or.inl ⟨by rfl, ?_⟩) (by assumption) ?_
                rotate_left
                · intro W hSW
                  try dsimp only at hSW
                  go_simp
                  try with_reducible rfl
                try simp only [Act.put, List.setIfInBounds_toArray, List.set_cons_zero, List.set_cons_succ]
                refine take_ato (i := 17) (d := 105) (v := ?_) rfl rfl (by kernel_rfl) (by kernel_rfl) (by kernel_rfl) (fun _ _ _ h => h) (Or.inl ⟨by rfl, ?_⟩) (by assumption) ?_
                rotate_left
                · intro W hSW
                  try dsimp only at hSW
                  go_simp
                  try with_reducible rfl
                try simp only [Act.put, List.setIfInBounds_toArray, List.set_cons_zero, List.set_cons_succ]
                refine take_ato (i := 18) (d := 106) (v := ?_) rfl rfl (by kernel_rfl) (by kernel_rfl) (by kernel_rfl) (fun _ _ _ h => h) (Or.inl ⟨by rfl, ?_⟩) (by assumption) ?_
                rotate_left
                · intro W hSW
                  try dsimp only at hSW
                  go_simp
                  try with_reducible rfl
                try simp only [Act.put, List.setIfInBounds_toArray, List.set_cons_zero, List.set_cons_succ]
                refine wpAnyH_ready (rs := [15]) (by kernel_rfl) (by simp) ?_
                refine AllReadyH.cons rfl (fun K hK => ?_) ?_
                · go_simp
                  go_at_call 21
                  refine H3.out.mono ?_
                  clear H3
                  rintro e w8 ⟨⟨u1, rfl, o8⟩, g8⟩
                  have k8 := (Kp.drew none' wc).then (Kp.ofN g8 none')
                  have HSI := hide (osame_any u1 _ F w8 (o8.rw clM) (HSL.out w8 k8) hFl)
                  refine hK.out _ _ (trivial) (fun hHeld => ?_)
                  clear hK K
                  try simp only [Act.put, List.setIfInBounds_toArray, List.set_cons_zero, List.set_cons_succ]
                  refine wpAnyH_ready (rs := [19]) (by kernel_rfl) (by simp) ?_
                  refine AllReadyH.cons rfl (fun K hK => ?_) ?_
                  · go_simp
                    go_at_call 20
                    refine HSI.out.mono ?_
                    clear HSI
                    rintro e w9 ⟨rfl, g9⟩
                    have k9 := k8.then (Kp.ofN g9 none')
                    refine hK.out _ _ (trivial) (fun hHeld => ?_)
                    clear hK K
                    try simp only [Act.put, List.setIfInBounds_toArray, List.set_cons_zero, List.set_cons_succ]
                    refine take_ato (i := 20) (d := 108) (v := ?_) rfl rfl (by kernel_rfl) (by kernel_rfl) (by kernel_rfl) (fun _ _ _ h => h) (Or.inl ⟨by rfl, ?_⟩) (by assumption) ?_
                    rotate_left
                    · intro W hSW
                      try dsimp only at hSW
                      go_simp
                      try with_reducible rfl
                    try simp only [Act.put, List.setIfInBounds_toArray, List.set_cons_zero, List.set_cons_succ]
                    refine take_ato (i := 21) (d := 109) (v := ?_) rfl rfl (by kernel_rfl) (by kernel_rfl) (by kernel_rfl) (fun _ _ _ h => h) (Or.inl ⟨by rfl, ?_⟩) (by assumption) ?_
                    rotate_left
                    · intro W hSW
                      try dsimp only at hSW
                      go_simp
                      try with_reducible rfl
                    try simp only [Act.put, List.setIfInBounds_toArray, List.set_cons_zero, List.set_cons_succ]
                    refine wpAnyH_done (by kernel_rfl) ?_ _
                    go_wp2
                    go_meet
                    exact ⟨rfl, k9⟩
                  exact AllReadyH.nil
                exact AllReadyH.nil
              exact AllReadyH.nil
            exact AllReadyH.nil
    · have hii : ¬ (i : Int) < (S.length : Int) := by omega
      have hkp := hT.kp
      clear hT
      go_wp2
      go_ret
      exact ⟨rfl, hkp.grown⟩

end Go.Proofs.Ytamgnpmkmlhadaa.outboxDense
