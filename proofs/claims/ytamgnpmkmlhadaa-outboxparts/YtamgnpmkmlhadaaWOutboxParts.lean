/- The walk of the law OutboxParts. Conditions: those that the theorem states. -/
import Derived.Test.YtamgnpmkmlhadaaOPar
import Derived.Deep.CutBlock
namespace Go.Proofs.Ytamgnpmkmlhadaa.outboxParts
open Go.RowKit
set_option linter.unusedVariables false

theorem lot_of (n : Int) : ∃ lot : Nat, wrap64 (1 + wrap64 ((IntKind.u64.wrap n).tmod 9)) = (lot : Int) ∧ 1 ≤ lot ∧ lot ≤ 9 := by
  have e : IntKind.u64.wrap n = n % 18446744073709551616 := rfl
  rw [e, Int.tmod_eq_emod_of_nonneg (by omega)]
  exact ⟨(1 + (n % 18446744073709551616) % 9).toNat, by unfold wrap64; omega, by omega, by omega⟩
set_option maxRecDepth 100000 in
set_option maxHeartbeats 6400000 in
theorem walk (a : Option Addr) (len cap : Nat) (L0 : List Oo) (n : Int) (w : World) (hB : Sts Oo.cells 9 (fun o _ => o.ok) w.heap.size w (.slice a len cap) L0) : Calls Try.prog 6 #[.slice a len cap, .int .i64 n] w fun e w' => e = .returned (.bool true) ∧ w.grownBy w' none := by
  obtain ⟨S, hL3, hmin, hLc, hlc, hcm, hscr⟩ := scr_of hB
  have HSC := hide hscr
  clear hB hscr
  have HV := hide (olives_any w)
  have HE := hide (fun W => oearly_any a len cap W hlc hcm)
  rw [hmin] at HE
  clear hmin hlc hcm hLc
  go_enter Try.func6, Try.ntmps6
  go_upto_region 3 with (go_at_call 8; refine HV.out.mono ?_; clear HV; rintro e w1 ⟨rfl, k1⟩)
  have HN1 := fun W => hide (onew_any W)
  go_upto_region 5 with (first
    | (go_at_call 13; refine (HE.out _).mono ?_; clear HE; rintro e w2 ⟨rfl, e2⟩; subst e2; have HA := HN1 w2; clear HN1)
    | (go_at_call 14; refine HA.out.mono ?_; clear HA; rintro e w3 ⟨rfl, e3⟩; have T4 := Dl.new k1 e3; clear e3))
  obtain ⟨p, Hp⟩ : ∃ p, Hid (w2.heap.size = p) := ⟨_, rfl⟩
  rw [Hp.out] at T4
  try rw [Hp.out]
  clear k1
  go_wp2
  go_loopw [6] (fun t wr => ∃ (i : Nat) (l : List Ms), i ≤ S.length ∧ t = .int .i64 i ∧ l.length ≤ i ∧ Dl w wr p 0 l (.slice none 0 0) []) (fun t _ => S.length - (intOf t).toNat)
  case atStart => exact ⟨0, [], Nat.zero_le _, rfl, Nat.le_refl _, T4⟩
  case round =>
    obtain ⟨i, l, hi, rfl, hli, hT⟩ := hrel
    clear T4
    by_cases hlt : i < S.length
    · have hii : (i : Int) < (S.length : Int) := by omega
      obtain ⟨b, off, rfl, hbw, cr, hok⟩ := HSC.out i hlt
      have dr := hT.kp.rangeAt cr (fun h => h)
      obtain ⟨o, HO⟩ : ∃ o, Hid (S[i] = o) := ⟨_, hide rfl⟩
      rw [HO.out] at dr hok cr
      have d0 := dr 0 _ rfl
      have d1 := dr 1 _ rfl
      have d2 := dr 2 _ rfl
      have d3 := dr 3 _ rfl
      have d4 := dr 4 _ rfl
      have d5 := dr 5 _ rfl
      have d6 := dr 6 _ rfl
      have d7 := dr 7 _ rfl
      have d8 := dr 8 _ rfl
      rw [Nat.add_zero] at d0
      have q4 := cr 4 _ rfl
      have q5 := cr 5 _ rfl
      have q6 := cr 6 _ rfl
      have q7 := cr 7 _ rfl
      have q8 := cr 8 _ rfl
      clear dr cr
      have HKd := hide (okind_any o wr)
      unfold Oo.cells at HKd
      have hk3 := o.knd_lt
      obtain ⟨kd, Hkd⟩ : ∃ kd, Hid (o.knd = kd) := ⟨_, rfl⟩
      rw [Hkd.out] at HKd hk3
      obtain ⟨_, ho1, ho2, _, ho4, ho5, ho6⟩ := hok
      by_cases hk0 : kd = 0
      · have hkb : ((kd : Int) == 0) = true := by rw [hk0]; rfl
        clear hk0
        go_upto_region 9 with (go_at_call 15; refine HKd.out.mono ?_; clear HKd; rintro e w7 ⟨rfl, k7⟩)
        have hT7 := hT.keptN k7
        have HK7 := hide hT7.kp
        have HSA := hide ((hT7.keptN (Kp.drew none' w7)).add o.m.f o.m.t o.m.v ho4 ho5 ho6 (by omega))
        unfold V.val at HSA
        have hlx := xN_len 0 l o.m.f o.m.t o.m.v
        clear hT hT7 k7 d0 d1 d2 d3 d4 d5 d6 d7 d8
        clear Hkd hkb
        refine wp_region_held_drew (S := fun W => Kp none' w W) (by kernel_rfl) (HK7.out.then (Kp.drew _ _)) (fun hHeld => ?_)
        refine take_ato (i := 0) (d := 28) (v := ?_) rfl rfl (by kernel_rfl) (by kernel_rfl) (by kernel_rfl) (fun _ _ _ h => h) (Or.inl ⟨by rfl, ?_⟩) (by assumption) ?_
        rotate_left
        · intro W hSW
          try dsimp only at hSW
          go_simp
          try with_reducible rfl
        try simp only [Act.put, List.setIfInBounds_toArray, List.set_cons_zero, List.set_cons_succ]
        refine take_ato (i := 1) (d := 29) (v := ?_) rfl rfl (by kernel_rfl) (by kernel_rfl) (by kernel_rfl) (fun _ _ _ h => h) (Or.inl ⟨by rfl, ?_⟩) (by assumption) ?_
        rotate_left
        · intro W hSW
          try dsimp only at hSW
          go_simp
          try with_reducible rfl
        try simp only [Act.put, List.setIfInBounds_toArray, List.set_cons_zero, List.set_cons_succ]
        refine take_ato (i := 2) (d := 30) (v := ?_) rfl rfl (by kernel_rfl) (by kernel_rfl) (by kernel_rfl) (fun _ _ _ h => h) (Or.inl ⟨by rfl, ?_⟩) (by assumption) ?_
        rotate_left
        · intro W hSW
          try dsimp only at hSW
          go_simp
          try with_reducible rfl
        try simp only [Act.put, List.setIfInBounds_toArray, List.set_cons_zero, List.set_cons_succ]
        refine take_ato (i := 3) (d := 31) (v := ?_) rfl rfl (by kernel_rfl) (by kernel_rfl) (by kernel_rfl) (fun _ _ _ h => h) (Or.inl ⟨by rfl, ?_⟩) (by assumption) ?_
        rotate_left
        · intro W hSW
          try dsimp only at hSW
          go_simp
          try with_reducible rfl
        try simp only [Act.put, List.setIfInBounds_toArray, List.set_cons_zero, List.set_cons_succ]
        refine take_ato (i := 4) (d := 32) (v := ?_) rfl rfl (by kernel_rfl) (by kernel_rfl) (by kernel_rfl) (fun _ _ _ h => h) (Or.inl ⟨by rfl, ?_⟩) (by assumption) ?_
        rotate_left
        · intro W hSW
          try dsimp only at hSW
          go_simp
          try with_reducible rfl
        try simp only [Act.put, List.setIfInBounds_toArray, List.set_cons_zero, List.set_cons_succ]
        refine take_ato (i := 5) (d := 33) (v := ?_) rfl rfl (by kernel_rfl) (by kernel_rfl) (by kernel_rfl) (fun _ _ _ h => h) (Or.inl ⟨by rfl, ?_⟩) (by assumption) ?_
        rotate_left
        · intro W hSW
          try dsimp only at hSW
          go_simp
          try with_reducible rfl
        try simp only [Act.put, List.setIfInBounds_toArray, List.set_cons_zero, List.set_cons_succ]
        refine take_ato (i := 6) (d := 34) (v := ?_) rfl rfl (by kernel_rfl) (by kernel_rfl) (by kernel_rfl) (fun _ _ _ h => h) (Or.inl ⟨by rfl, ?_⟩) (by assumption) ?_
        rotate_left
        · intro W hSW
          try dsimp only at hSW
          have y := (show Kp none' w W from hSW).cell q4 (fun h => h)
          go_simp
          try with_reducible rfl
        try simp only [Act.put, List.setIfInBounds_toArray, List.set_cons_zero, List.set_cons_succ]
        refine take_ato (i := 7) (d := 35) (v := ?_) rfl rfl (by kernel_rfl) (by kernel_rfl) (by kernel_rfl) (fun _ _ _ h => h) (Or.inl ⟨by rfl, ?_⟩) (by assumption) ?_
        rotate_left
        · intro W hSW
          try dsimp only at hSW
          go_simp
          try with_reducible rfl
        try simp only [Act.put, List.setIfInBounds_toArray, List.set_cons_zero, List.set_cons_succ]
        refine take_ato (i := 8) (d := 36) (v := ?_) rfl rfl (by kernel_rfl) (by kernel_rfl) (by kernel_rfl) (fun _ _ _ h => h) (Or.inl ⟨by rfl, ?_⟩) (by assumption) ?_
        rotate_left
        · intro W hSW
          try dsimp only at hSW
          go_simp
          try with_reducible rfl
        try simp only [Act.put, List.setIfInBounds_toArray, List.set_cons_zero, List.set_cons_succ]
        refine take_ato (i := 9) (d := 37) (v := ?_) rfl rfl (by kernel_rfl) (by kernel_rfl) (by kernel_rfl) (fun _ _ _ h => h) (Or.inl ⟨by rfl, ?_⟩) (by assumption) ?_
        rotate_left
        · intro W hSW
          try dsimp only at hSW
          go_simp
          try with_reducible rfl
        try simp only [Act.put, List.setIfInBounds_toArray, List.set_cons_zero, List.set_cons_succ]
        refine take_ato (i := 10) (d := 38) (v := ?_) rfl rfl (by kernel_rfl) (by kernel_rfl) (by kernel_rfl) (fun _ _ _ h => h) (Or.inl ⟨by rfl, ?_⟩) (by assumption) ?_
        rotate_left
        · intro W hSW
          try dsimp only at hSW
          go_simp
          try with_reducible rfl
        try simp only [Act.put, List.setIfInBounds_toArray, List.set_cons_zero, List.set_cons_succ]
        refine take_ato (i := 11) (d := 39) (v := ?_) rfl rfl (by kernel_rfl) (by kernel_rfl) (by kernel_rfl) (fun _ _ _ h => h) (Or.inl ⟨by rfl, ?_⟩) (by assumption) ?_
        rotate_left
        · intro W hSW
          try dsimp only at hSW
          go_simp
          try with_reducible rfl
        try simp only [Act.put, List.setIfInBounds_toArray, List.set_cons_zero, List.set_cons_succ]
        refine take_ato (i := 12) (d := 40) (v := ?_) rfl rfl (by kernel_rfl) (by kernel_rfl) (by kernel_rfl) (fun _ _ _ h => h) (Or.inl ⟨by rfl, ?_⟩) (by assumption) ?_
        rotate_left
        · intro W hSW
          try dsimp only at hSW
          have y := (show Kp none' w W from hSW).cell q5 (fun h => h)
          go_simp
          try with_reducible rfl
        try simp only [Act.put, List.setIfInBounds_toArray, List.set_cons_zero, List.set_cons_succ]
        refine take_ato (i := 13) (d := 41) (v := ?_) rfl rfl (by kernel_rfl) (by kernel_rfl) (by kernel_rfl) (fun _ _ _ h => h) (Or.inl ⟨by rfl, ?_⟩) (by assumption) ?_
        rotate_left
        · intro W hSW
          try dsimp only at hSW
          go_simp
          try with_reducible rfl
        try simp only [Act.put, List.setIfInBounds_toArray, List.set_cons_zero, List.set_cons_succ]
        refine take_ato (i := 14) (d := 42) (v := ?_) rfl rfl (by kernel_rfl) (by kernel_rfl) (by kernel_rfl) (fun _ _ _ h => h) (Or.inl ⟨by rfl, ?_⟩) (by assumption) ?_
        rotate_left
        · intro W hSW
          try dsimp only at hSW
          go_simp
          try with_reducible rfl
        try simp only [Act.put, List.setIfInBounds_toArray, List.set_cons_zero, List.set_cons_succ]
        refine take_ato (i := 15) (d := 43) (v := ?_) rfl rfl (by kernel_rfl) (by kernel_rfl) (by kernel_rfl) (fun _ _ _ h => h) (Or.inl ⟨by rfl, ?_⟩) (by assumption) ?_
        rotate_left
        · intro W hSW
          try dsimp only at hSW
          go_simp
          try with_reducible rfl
        try simp only [Act.put, List.setIfInBounds_toArray, List.set_cons_zero, List.set_cons_succ]
        refine take_ato (i := 16) (d := 44) (v := ?_) rfl rfl (by kernel_rfl) (by kernel_rfl) (by kernel_rfl) (fun _ _ _ h => h) (Or.inl ⟨by rfl, ?_⟩) (by assumption) ?_
        rotate_left
        · intro W hSW
          try dsimp only at hSW
          go_simp
          try with_reducible rfl
        try simp only [Act.put, List.setIfInBounds_toArray, List.set_cons_zero, List.set_cons_succ]
        refine take_ato (i := 17) (d := 45) (v := ?_) rfl rfl (by kernel_rfl) (by kernel_rfl) (by kernel_rfl) (fun _ _ _ h => h) (Or.inl ⟨by rfl, ?_⟩) (by assumption) ?_
        rotate_left
        · intro W hSW
          try dsimp only at hSW
          go_simp
          try with_reducible rfl
        try simp only [Act.put, List.setIfInBounds_toArray, List.set_cons_zero, List.set_cons_succ]
        refine take_ato (i := 18) (d := 46) (v := ?_) rfl rfl (by kernel_rfl) (by kernel_rfl) (by kernel_rfl) (fun _ _ _ h => h) (Or.inl ⟨by rfl, ?_⟩) (by assumption) ?_
        rotate_left
        · intro W hSW
          try dsimp only at hSW
          have y6 := (show Kp none' w W from hSW).cell q6 (fun h => h)
          have y7 := (show Kp none' w W from hSW).cell q7 (fun h => h)
          have y8 := (show Kp none' w W from hSW).cell q8 (fun h => h)
          go_simp
          try with_reducible rfl
        try simp only [Act.put, List.setIfInBounds_toArray, List.set_cons_zero, List.set_cons_succ]
        refine wpAnyH_ready (rs := [19]) (by kernel_rfl) (by simp) ?_
        refine AllReadyH.cons rfl (fun K hK => ?_) ?_
        · go_simp
          go_at_call 16
          refine HSA.out.mono ?_
          clear HSA
          rintro e w9 ⟨rfl, hT9⟩
          refine hK.out _ _ (hT9.kp) (fun hHeld => ?_)
          clear hK K
          try simp only [Act.put, List.setIfInBounds_toArray, List.set_cons_zero, List.set_cons_succ]
          refine wpAnyH_done (by kernel_rfl) ?_ _
          go_wp2
          go_roundw
          case rel => exact ⟨i + 1, _, by omega, by go_num, by omega, hT9⟩
          case measure => simp [intOf]; omega
        exact AllReadyH.nil
      · have hkb0 : ((kd : Int) == 0) = false := beq_eq_false_iff_ne.2 (by omega)
        have HTT := hide hT
        clear hT
        go_wp2_with (go_at_call 15; refine HKd.out.mono ?_; clear HKd; rintro e w7 ⟨rfl, k7⟩)
        go_roundw
        case rel => exact ⟨i + 1, l, by omega, by go_num, by omega, HTT.out.keptN k7⟩
        case measure => simp [intOf]; omega
    · have hii : ¬ (i : Int) < (S.length : Int) := by omega
      have hl3 : l.length ≤ 300 := by omega
      obtain ⟨lot, hlot, hl1, hl9⟩ := lot_of n
      go_upto_region 11 with fail
      rw [hlot]
      clear hlot HSC hi hii hli hlt
      obtain ⟨N, HN⟩ : ∃ N, Hid (l.length = N) := ⟨_, rfl⟩
      have hT0 : Dl w wr p 0 l (.slice none 0 0) (l.take 0) := hT
      rw [HN.out] at hl3
      clear hT
      go_wp2
      go_loopw [8, 9] (fun t8 t9 wr => ∃ j : Nat, j ≤ N ∧ t9 = .int .i64 j ∧ Dl w wr p 0 l t8 (l.take j)) (fun _ t9 _ => N - (intOf t9).toNat)
      case atStart => exact ⟨0, Nat.zero_le _, rfl, hT0⟩
      case round =>
        obtain ⟨j, hj, rfl, hT⟩ := hrel
        clear hT0
        obtain ⟨a8, c8, rfl⟩ := hT.slc
        have hjl : (l.take j).length = j := by rw [List.length_take, HN.out]; omega
        rw [hjl] at hT ⊢
        have hle : j ≤ l.length := by rw [HN.out]; exact hj
        have hlast := frm_last l hT.rw9 j lot hle
        obtain ⟨hlen, hcat⟩ := frm_lot l j lot hle
        rw [HN.out] at hlen hcat
        have HFr := hide (hT.from (j : Int) (lot : Int) (by unfold ir; omega) (by unfold ir; omega))
        obtain ⟨F, HF⟩ : ∃ X, Hid (frm 0 l (j : Int) (lot : Int) = X) := ⟨_, rfl⟩
        rw [HF.out] at hlen hcat HFr hlast
        clear hT
        by_cases hjN : j = N
        · have hl0 : F.length = 0 := by omega
          have HjN := hide hjN
          clear hjN
          go_upto_region 14 with (go_at_call 21; refine HFr.out.mono ?_; clear HFr; rintro e w5 ⟨u, rfl, ho, hg, hT5⟩)
          obtain ⟨a5, c5, rfl⟩ := ho.slc
          rw [hl0]
          have eAll : l.take j = l := List.take_of_length_le (by rw [HN.out]; have := HjN.out; omega)
          rw [eAll] at hT5
          have HT5 := hide hT5
          have HL := fun W (k : Kp none' w5 W) => hide ((hT5.keptN k).len)
          have HFa := hide (hT5.from 0 (N : Int) (by unfold ir; omega) (by unfold ir; omega))
          rw [frm_all 0 l N (by rw [HN.out]; exact Nat.le_refl _)] at HFa
          rw [HN.out] at HL
          have hx1 : ((j : Int) == (N : Int)) = true := by rw [HjN.out]; simp
          have hl6 : l.length ≤ 1000000 := by rw [HN.out]; omega
          clear hT5 ho hg hlast hcat hlen
          go_wp2_with (first
            | (go_at_call 25; refine (HL _ (by first | exact Kp.refl _ _ | exact k8)).out.mono ?_; rintro e w6 ⟨rfl, e6⟩; subst e6)
            | (go_at_call 21; refine HFa.out.mono ?_; clear HFa; rintro e w7 ⟨u2, rfl, o7, g7, hT7⟩; have HSI := hide (osame_any _ u2 l w7 (hT7.own.rw clM) (o7.rw clM) hl6); have k7 := Kp.ofN g7 none')
            | (go_at_call 20; refine HSI.out.mono ?_; clear HSI; rintro e w8 ⟨rfl, g8⟩; have k8 := k7.then (Kp.ofN g8 none')))
          go_ret
          exact ⟨rfl, (HT5.out.kp.then k8).grown⟩
        · obtain ⟨K, hK⟩ : ∃ K, F.length = K + 1 := ⟨F.length - 1, by omega⟩
          go_upto_region 14 with (go_at_call 21; refine HFr.out.mono ?_; clear HFr; rintro e w5 ⟨u, rfl, ho, hg, hT5⟩)
          have hsh : ∃ r c5, u = .slice (some ⟨r, 0, none⟩) (K + 1) c5 := by
            rcases ho.shape with ⟨_, h⟩ | ⟨r, c, h, _⟩
            · rw [h] at hK
              simp at hK
            · exact ⟨r, c, by rw [h, hK]⟩
          obtain ⟨r, c5, rfl⟩ := hsh
          have n0 := OwR.cells ho clM rfl K (by omega) 0 _ rfl
          rw [hlast K (by omega), Nat.add_zero] at n0
          obtain ⟨v', w', hr, hd⟩ := hT5.app _ F (ho.rw clM) (by rw [hjl]; omega)
          rw [hcat, ← hlen, hK] at hd
          have HD := hide hd
          have hc1 : ¬ (lot : Int) < (K : Int) + 1 := by omega
          have hc2 : ¬ (j : Int) + (K : Int) + 1 ≤ (j : Int) := by omega
          clear hT5 ho hg hlast hcat hd
          go_upto_region 18 with fail
          go_wp2_with (at_builtin; refine wpList_app_at rfl (.tmp 82) (.tmp 83) 39 39 rfl _ _ rfl rfl hr ?_)
          go_roundw
          case rel => exact ⟨j + (K + 1), by omega, by go_num, HD.out⟩
          case measure => simp [intOf]; omega

end Go.Proofs.Ytamgnpmkmlhadaa.outboxParts
