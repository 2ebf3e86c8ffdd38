/- The walk of the law SpaceBack. Conditions: those that the theorem states. -/
import Derived.Test.YtmnedhlgplkfhaaGreatSBd
namespace Go.Proofs.YtmnedhlgplkfhaaGreat.spaceBack
open Go.RowKit
set_option linter.unusedVariables false

set_option maxRecDepth 100000 in
set_option maxHeartbeats 6400000 in
theorem walk (n0 : Int) (a : Option Addr) (len cap : Nat) (L : List Sop) (a' : Option Addr) (len' cap' : Nat) (L' : List Sop) (w : World) (hB : Sts Sop.cells 3 (fun o _ => o.ok) w.heap.size w (.slice a len cap) L) (hB' : Sts Sop.cells 3 (fun o _ => o.ok) w.heap.size w (.slice a' len' cap') L') :
    Calls Tryz.prog 5 #[.int .i64 n0, .slice a len cap, .slice a' len' cap'] w fun e w' => e = .returned (.bool true) ∧ w.grownBy w' none := by
  obtain ⟨L2, hL2, hL200, hlc, hcm, hcs'⟩ := sops_early hB
  obtain ⟨L3, hL3, hL300, hlc3, hcm3, hcs3⟩ := sops_early hB'
  have hea := searly_any a len cap
  rw [← hL2] at hea
  have hea3 := searly_any a' len' cap'
  rw [← hL3] at hea3
  have HEA : Hid (∀ W : World, Calls Tryz.prog 10 #[.slice a len cap] W fun e w' => e = .returned (.slice a L2.length cap) ∧ w' = W) := fun W => hea W hlc hcm
  have HEA3 : Hid (∀ W : World, Calls Tryz.prog 10 #[.slice a' len' cap'] W fun e w' => e = .returned (.slice a' L3.length cap') ∧ w' = W) := fun W => hea3 W hlc3 hcm3
  have HCS := hide hcs'
  have HCS3 := hide hcs3
  clear hB hB' hcs' hcs3 hL2 hL3 hea hea3
  have hnn := pagesN_le n0
  obtain ⟨n, HN⟩ : ∃ n, Hid (pagesN n0 = n) := ⟨_, rfl⟩
  rw [HN.out] at hnn
  have HPG : Hid (∀ w1 : World, Calls Tryz.prog 9 #[.int .i64 n0] w1 fun e w' => e = .returned (.int .i64 (n : Int)) ∧ w' = w1) := fun w1 => by
    have := spages_any n0 w1
    rw [HN.out] at this
    exact this
  have HBE : Hid (∀ w1 : World, Calls Tryz.prog 8 #[.int .i64 (n : Int)] w1 fun e w' => ∃ x own q r rr, e = .returned (.tuple #[.pointer (some ⟨x, 0, none⟩), .bool true]) ∧ Bp w' own x q w1.heap.size 1 0 (Sw.new (zeroP n)) (Sw.new (zeroP n)) (zeroP n) (zeroP n) r rr ∧ q.n = n ∧ Kp none' w1 w') := fun w1 => bbegin_any n w1 hnn.1 (by omega)
  go_enter Tryz.func5, Tryz.ntmps5
  go_upto_region 6 with (first
    | (go_at_call 7; refine (slives_any _).mono ?_; rintro e w1 ⟨rfl, hk1⟩)
    | (go_at_call 9; refine (HPG.out _).mono ?_; rintro e w' ⟨rfl, hw'⟩; obtain rfl := hw'.symm)
    | (go_at_call 8; refine (HBE.out w1).mono ?_; rintro e w2 ⟨x, own, q, r, rr, rfl, hB2, hqn, hk2⟩)
    | fail)
  have HB2 := hide hB2
  have hK2 := hk1.then hk2
  have hs1 := hk1.size
  obtain ⟨B, HBB⟩ : ∃ B, Hid (w1.heap.size = B) := ⟨_, rfl⟩
  rw [HBB.out] at HB2 hs1
  clear hB2 hk1 hk2 HBE HPG hqn
  go_wp2_with (first
    | (go_at_call 10; first | (with_reducible refine (HEA.out _).mono ?_; rintro e w' ⟨rfl, hw'⟩; obtain rfl := hw'.symm) | (with_reducible refine (HEA3.out _).mono ?_; rintro e w' ⟨rfl, hw'⟩; obtain rfl := hw'.symm))
    | fail)
  go_loopw [9] (fun t wr => ∃ i : Nat, i ≤ L2.length ∧ t = .int .i64 i ∧ ∃ own S Q, Bp wr own x q B (1 + i) i S S Q Q r rr ∧ S.over = false ∧ Kp none' w wr) (fun t _ => L2.length - (intOf t).toNat)
  case atStart => exact ⟨0, Nat.zero_le _, rfl, own, _, _, HB2.out, rfl, hK2⟩
  case round =>
    obtain ⟨i, hi, rfl, own, S, Q, hBr, hov, hK⟩ := hrel
    clear HB2 hK2 HEA HEA3
    by_cases hlt : i < L2.length
    · have hii : (i : Int) < (L2.length : Int) := by omega
      obtain ⟨b, off, rfl, hbl, q0, q1, q2⟩ := HCS.out i hlt
      obtain ⟨o, HOO⟩ : ∃ o, Hid (L2[i] = o) := ⟨_, hide rfl⟩
      rw [HOO.out] at q0 q1 q2
      have e0 := hK.cell q0 (fun h => h)
      have e1 := hK.cell q1 (fun h => h)
      have e2 := hK.cell q2 (fun h => h)
      have hki := skind_any o wr
      obtain ⟨kd, HKD⟩ : ∃ kd, Hid (o.kind = kd) := ⟨_, rfl⟩
      rw [HKD.out] at hki
      have HST : Hid (∀ W : World, kd ≠ 7 → Kp none' wr W → Calls Tryz.prog 11 #[.pointer (some ⟨x, 0, none⟩), .agg o.cells] W fun e w' => e = .returned (.bool true) ∧ ∃ own S Q, Bp w' own x q B (1 + (i + 1)) (i + 1) S S Q Q r rr ∧ S.over = false ∧ Kp none' w w') := fun W h7 hW => by
        have hBW := hBr.keep hW
        refine (bstep_any o hBW (by omega) (by omega)).mono ?_
        rintro e w' ⟨rfl, hBx⟩
        have hlow := hBx.low (fun k hk => hBW.lo k hk) w (hK.then hW) hs1
        obtain ⟨o', p1, _, _⟩ := hBx
        exact ⟨rfl, o', _, _, p1, by rw [does_over S o (by rw [HKD.out]; exact h7)]; exact hov, hlow⟩
      have HQ : Hid (∀ W : World, Kp none' wr W → W.cell? ⟨b, off + i * 3, none⟩ = some (.int .i64 o.k) ∧ W.cell? ⟨b, off + i * 3 + 1, none⟩ = some (.int .i64 o.n) ∧ W.cell? ⟨b, off + i * 3 + 2, none⟩ = some (.int .u8 (o.b.toNat : Int))) := fun W hW => ⟨hW.cell e0 (fun h => h), hW.cell e1 (fun h => h), hW.cell e2 (fun h => h)⟩
      have HBN : Hid (∀ W : World, Kp none' wr W → ∃ own S Q, Bp W own x q B (1 + (i + 1)) (i + 1) S S Q Q r rr ∧ S.over = false ∧ Kp none' w W) := fun W hW => ⟨_, S, Q, (hBr.keep hW).more (by omega) (by omega), hov, hK.then hW⟩
      obtain ⟨k0, n1, b8⟩ := o
      unfold Sop.cells at hki HST
      dsimp only at hki HST HQ e0 e1 e2
      have HKI := hide hki
      clear hki hBr hK q0 q1 q2 hov
      by_cases hk7 : kd = 7
      · subst hk7
        clear HST
        go_wp2_with (first
          | (go_at_call 20; refine HKI.out.mono ?_; rintro e w3 ⟨rfl, hk3⟩)
          | fail)
        have HB3 := hide (HBN.out w3 hk3)
        go_roundw
        case rel => exact ⟨i + 1, by omega, by go_num, HB3.out⟩
        case measure => simp [intOf]; omega
      · have hkb : (kd != 7) = true := by simpa using hk7
        have HS7 : Hid (kd ≠ 7) := hk7
        clear hk7
        go_wp2_with (first
          | (go_at_call 20; refine HKI.out.mono ?_; rintro e w3 ⟨rfl, hk3⟩; obtain ⟨f0, f1, f2⟩ := HQ.out w3 hk3)
          | (go_at_call 11; refine (HST.out w3 HS7.out hk3).mono ?_; rintro e w4 ⟨rfl, hB4⟩; have HB4 := hide hB4; clear hB4)
          | fail)
        go_roundw
        case rel => exact ⟨i + 1, by omega, by go_num, HB4.out⟩
        case measure => simp [intOf]; omega
    · have hi200 : i ≤ 200 := by omega
      have hiL : ¬ (i : Int) < (L2.length : Int) := by omega
      have x1 := hBr.x1
      have HLO := hide hBr.lo
      have HSV := hide ((Bx.refl hBr).save (by omega))
      have HBK : Hid (∀ T : Sw, S.save.From T → T.backE S.saveN = 0 ∧ Alike (T.back S.saveN) S.save ∧ (T.back S.saveN).base = S.save.base) := fun T h => back_same hov h
      have HAL := hide (save_same hov)
      have HL1 : Hid (S.save.now.length ≤ 160) := by show _ ≤ _; rw [(save_same hov).1]; exact (Bx.refl hBr).l160
      obtain ⟨S1, HS1⟩ : ∃ S1, Hid (S.save = S1) := ⟨_, rfl⟩
      obtain ⟨kn, HKN⟩ : ∃ kn, Hid (S.saveN = kn) := ⟨_, rfl⟩
      rw [HS1.out] at HSV HBK HAL HL1
      rw [HKN.out] at HSV HBK
      have HK := hide hK
      clear hBr hK hov
      go_upto_region 13 with (first
        | (go_at_call 23; refine HSV.out.mono ?_; rintro e w4 ⟨rfl, hB4⟩)
        | fail)
      obtain ⟨X, HX⟩ : ∃ X, Hid (S1.head = X) := ⟨_, rfl⟩
      obtain ⟨U, HU⟩ : ∃ U, Hid (S1.usedN = U) := ⟨_, rfl⟩
      obtain ⟨l, HLL⟩ : ∃ l, Hid ((if S1.over then [] else chgK S1.base S1.now S1.now.length) = l) := ⟨_, rfl⟩
      have HHE : Hid (∀ W : World, Bx wr own W x q B (1 + i + 1) i S1 S Q Q r rr → Calls Tryz.prog 14 #[.pointer (some ⟨r, 0, none⟩)] W fun e w' => e = .returned (.string X) ∧ w' = W) := fun W h => by
        have := h.head
        rw [HX.out] at this
        exact this
      have HUS : Hid (∀ W : World, Bx wr own W x q B (1 + i + 1) i S1 S Q Q r rr → Calls Tryz.prog 12 #[.pointer (some ⟨r, 0, none⟩)] W fun e w' => e = .returned (.int .i64 (U : Int)) ∧ w' = W) := fun W h => by
        have := h.used
        rw [HU.out] at this
        exact this
      have HCH : Hid (∀ W : World, Bx wr own W x q B (1 + i + 1) i S1 S Q Q r rr → Calls Tryz.prog 17 #[.pointer (some ⟨r, 0, none⟩)] W fun e w' => ∃ v, e = .returned v ∧ Ow (Value.int .i64) 3 w' W.heap.size v l ∧ ∃ own', Bp w' own' x q B (1 + i + 1 + 1) i S1 S Q Q r rr ∧ Kp none' w w' ∧ (∀ k, v.ownBlock = some k → own' k = 0)) := fun W h => by
        have := h.changed (by omega)
        rw [HLL.out] at this
        refine this.mono ?_
        rintro e w' ⟨v, rfl, c1, c2, own', d1, d2, d3, d4⟩
        exact ⟨v, rfl, c1, own', d1, c2.low HLO.out w HK.out hs1, d4⟩
      have hB4d := hB4.keep (Kp.drew none' w4)
      have T0 : w4.drew.cell? ⟨x, 1, none⟩ = some (.pointer (some ⟨r, 0, none⟩)) := hB4d.cells.2.1
      clear hB4
      go_region_held_law (fun W => W.cell? ⟨x, 1, none⟩ = some (.pointer (some ⟨r, 0, none⟩))) (first | assumption) (first
        | (go_at_call 14; refine (HHE.out _ hB4d).mono ?_; rintro e w' ⟨rfl, hw'⟩; obtain rfl := hw'.symm)
        | (go_at_call 12; refine (HUS.out _ hB4d).mono ?_; rintro e w' ⟨rfl, hw'⟩; obtain rfl := hw'.symm)
        | (go_at_call 17; refine (HCH.out _ hB4d).mono ?_; rintro e w5 ⟨v, rfl, hO5, own5, hB5, hK5, hv5⟩; have T5 : w5.cell? ⟨x, 1, none⟩ = some (.pointer (some ⟨r, 0, none⟩)) := hB5.x1; have HO5 := hide hO5; obtain ⟨va, vc, rfl, _⟩ := hO5.open; clear hO5)
        | fail)
      obtain ⟨vl, HVL⟩ : ∃ vl, Hid (l.length = vl) := ⟨_, rfl⟩
      rw [HVL.out] at HO5 hv5 ⊢
      have hqn160 : q.n ≤ 160 := hB5.n.2.2.2
      have HD5 : Hid (Dt w5 own5 w5.heap.size w4.drew.heap.size (.slice none 0 0) (.slice va vl vc) (rds S1 0) l) := ⟨Ow.nil _ _ _ _, (fun k h => by cases h), HO5.out, hv5, fun k h => (HO5.out.lt k h).2⟩
      have HB5 := hide hB5
      have HK5 := hide hK5
      have hwc : w.heap.size ≤ w5.heap.size := hK5.size
      obtain ⟨c5, HC5⟩ : ∃ c5, Hid (w5.heap.size = c5) := ⟨_, rfl⟩
      obtain ⟨c4, HC4⟩ : ∃ c4, Hid (w4.drew.heap.size = c4) := ⟨_, rfl⟩
      rw [HC5.out, HC4.out] at HD5
      rw [HC5.out] at hwc
      have hc5 : c5 ≤ w5.heap.size := by rw [HC5.out]; exact Nat.le_refl _
      clear hB4d hB5 hK5 hv5 T0 T5 HO5 HCH HUS HHE
      go_wp2
      go_loopw [14, 15] (fun u t wx => ∃ j : Nat, j ≤ q.n ∧ t = .int .i64 j ∧ c5 ≤ wx.heap.size ∧ ∃ own, Bp wx own x q B (1 + i + 1 + 1) i S1 S Q Q r rr ∧ Dt wx own c5 c4 u (.slice va vl vc) (rds S1 j) l ∧ Kp none' w wx) (fun _ t _ => q.n - (intOf t).toNat)
      case atStart => exact ⟨0, Nat.zero_le _, rfl, hc5, own5, HB5.out, HD5.out, HK5.out⟩
      case round =>
        obtain ⟨j, hj, rfl, hcx, own, hBj, hDj, hKj⟩ := hrel
        clear HB5 HD5 HK5 hc5
        have x0 := hBj.x0
        have x1 := hBj.x1
        have hpa := (Bx.refl hBj).cpages
        have hrd := (Bx.refl hBj).read (j : Int)
        by_cases hltj : j < q.n
        · have hji : (j : Int) < (q.n : Int) := by omega
          obtain ⟨Y, HY⟩ : ∃ Y, Hid ((S1.read (j : Int)).1 = Y) := ⟨_, rfl⟩
          obtain ⟨E, HE⟩ : ∃ E, Hid ((S1.read (j : Int)).2 = E) := ⟨_, rfl⟩
          rw [HY.out, HE.out] at hrd
          obtain ⟨u', W, hap, hD', hB', hk'⟩ := hDj.more hBj hcx (by omega) Y HY.out
          have hKW : Kp none' w W := hKj.trans hk' (fun _ _ h => h) (fun k hk e => by
            have := (hDj.hu.lt k e).1
            omega)
          have HFIN : Hid (c5 ≤ W.heap.size ∧ ∃ own, Bp W own x q B (1 + i + 1 + 1) i S1 S Q Q r rr ∧ Dt W own c5 c4 u' (.slice va vl vc) (rds S1 (j + 1)) l ∧ Kp none' w W) := ⟨Nat.le_trans hcx hk'.size, _, hB', hD', hKW⟩
          clear hD' hB' hk' hKW hBj hDj hKj
          go_wp2_with (first
            | (go_at_call 24; refine hpa.mono ?_; rintro e w' ⟨rfl, hw'⟩; obtain rfl := hw'.symm)
            | (go_at_call 25; refine hrd.mono ?_; rintro e w' ⟨rfl, hw'⟩; obtain rfl := hw'.symm)
            | (at_builtin; refine rwpList_app_at rfl (.tmp 92) (.tmp 94) 43 43 rfl _ _ rfl rfl hap ?_)
            | fail)
          go_roundw
          case rel => exact ⟨j + 1, by omega, by go_num, HFIN.out⟩
          case measure => simp [intOf]; omega
        · have hjq : j = q.n := by omega
          have hji : ¬ (j : Int) < (q.n : Int) := by omega
          have hjd : ¬ j < q.n := by omega
          obtain ⟨ua, uc, hu, huc⟩ := hDj.hu.open
          have hpos : 0 < (rds S1 j).length := by rw [rds_len]; have := hBj.n.2.2.1; omega
          obtain ⟨gU, hua, _, _⟩ := huc 0 hpos
          rw [rds_len] at hu
          subst hua
          subst hu
          have HDJ := hide hDj
          have HBJ := hide hBj
          have HKJ := hide hKj
          have HJQ := hide hjq
          clear hrd hBj hDj hKj huc hjq
          go_wp2_with (first
            | (go_at_call 24; refine hpa.mono ?_; rintro e w' ⟨rfl, hw'⟩; obtain rfl := hw'.symm)
            | fail)
          go_loopw [18] (fun t wx => ∃ j3 : Nat, j3 ≤ L3.length ∧ t = .int .i64 j3 ∧ ∃ own SW SR, Bp wx own x q B (1 + i + 1 + 1 + j3) (i + j3) SW SR Q Q r rr ∧ S1.From SW ∧ Alike SW SR ∧ Dt wx own c5 c4 (.slice (some ⟨gU, 0, none⟩) j uc) (.slice va vl vc) (rds S1 j) l ∧ Kp none' w wx) (fun t _ => L3.length - (intOf t).toNat)
          case atStart => exact ⟨0, Nat.zero_le _, rfl, own, S1, S, HBJ.out, Sw.From.refl _, HAL.out, HDJ.out, HKJ.out⟩
          case round =>
            obtain ⟨j3, hj3, rfl, own, SW, SR, hB3, hfr, hal, hD3, hK3⟩ := hrel
            clear HBJ HDJ HKJ hpa x0 x1
            by_cases hlt3 : j3 < L3.length
            · have hji3 : (j3 : Int) < (L3.length : Int) := by omega
              obtain ⟨b, off, rfl, hbl, q0, q1, q2⟩ := HCS3.out j3 hlt3
              obtain ⟨o, HOO⟩ : ∃ o, Hid (L3[j3] = o) := ⟨_, hide rfl⟩
              rw [HOO.out] at q0 q1 q2
              have e0 := hK3.cell q0 (fun h => h)
              have e1 := hK3.cell q1 (fun h => h)
              have e2 := hK3.cell q2 (fun h => h)
              obtain ⟨kd, HKD⟩ : ∃ kd, Hid (o.kind = kd) := ⟨_, rfl⟩
              have HKI : Hid (∀ W : World, Calls Tryz.prog 20 #[.agg o.cells] W fun e w' => e = .returned (.int .i64 kd) ∧ Kp none' W w') := fun W => by
                have := skind_any o W
                rw [HKD.out] at this
                exact this
              have HSK : Hid (∀ W : World, Kp none' wr W → ∃ own SW SR, Bp W own x q B (1 + i + 1 + 1 + (j3 + 1)) (i + (j3 + 1)) SW SR Q Q r rr ∧ S1.From SW ∧ Alike SW SR ∧ Dt W own c5 c4 (.slice (some ⟨gU, 0, none⟩) j uc) (.slice va vl vc) (rds S1 j) l ∧ Kp none' w W) := fun W hW => by
                obtain ⟨own', p1, d1⟩ := hD3.bx ((Bx.refl hB3).keep hW)
                exact ⟨own', SW, SR, p1.more (by omega) (by omega), hfr, hal, d1, hK3.then hW⟩
              have HST : Hid (∀ W : World, kd ≠ 7 → kd ≠ 6 → Kp none' wr W → Calls Tryz.prog 11 #[.pointer (some ⟨x, 0, none⟩), .agg o.cells] W fun e w' => IsB e ∧ Hid (∃ own SW SR, Bp w' own x q B (1 + i + 1 + 1 + (j3 + 1)) (i + (j3 + 1)) SW SR Q Q r rr ∧ S1.From SW ∧ Alike SW SR ∧ Dt w' own c5 c4 (.slice (some ⟨gU, 0, none⟩) j uc) (.slice va vl vc) (rds S1 j) l ∧ Kp none' w w')) := fun W h7 h6 hW => by
                obtain ⟨own', p1, d1⟩ := hD3.bx ((Bx.refl hB3).keep hW)
                have g6 : o.kind ≠ 6 := by rw [HKD.out]; exact h6
                have g7 : o.kind ≠ 7 := by rw [HKD.out]; exact h7
                refine (gstep_any o p1 hal (by omega) (by omega) g6 g7).mono ?_
                rintro e w' ⟨hbb, hBx⟩
                have hlow := hBx.low (fun k hk => p1.lo k hk) w (hK3.then hW) hs1
                obtain ⟨own2, p2, d2⟩ := d1.bx hBx
                exact ⟨hbb, own2, _, _, p2, hfr.trans (does_from SW o g6 g7), hal.does o g6 g7, d2, hlow⟩
              have HQ : Hid (∀ W : World, Kp none' wr W → W.cell? ⟨b, off + j3 * 3, none⟩ = some (.int .i64 o.k) ∧ W.cell? ⟨b, off + j3 * 3 + 1, none⟩ = some (.int .i64 o.n) ∧ W.cell? ⟨b, off + j3 * 3 + 2, none⟩ = some (.int .u8 (o.b.toNat : Int))) := fun W hW => ⟨hW.cell e0 (fun h => h), hW.cell e1 (fun h => h), hW.cell e2 (fun h => h)⟩
              obtain ⟨k0, n1, b8⟩ := o
              unfold Sop.cells at HKI HST
              dsimp only at HKI HST HQ e0 e1 e2
              clear hB3 hfr hal hD3 hK3 q0 q1 q2
              by_cases hk7 : kd = 7
              · subst hk7
                clear HST
                go_wp2_with (first
                  | (go_at_call 20; refine (HKI.out _).mono ?_; rintro e w3 ⟨rfl, hk3⟩)
                  | fail)
                have HB3 := hide (HSK.out w3 hk3)
                go_roundw
                case rel => exact ⟨j3 + 1, by omega, by go_num, HB3.out⟩
                case measure => simp [intOf]; omega
              · have hkb : (kd != 7) = true := by simpa using hk7
                have HS7 : Hid (kd ≠ 7) := hk7
                clear hk7
                by_cases hk6 : kd = 6
                · subst hk6
                  clear HST
                  go_wp2_with (first
                    | (go_at_call 20; refine (HKI.out w3).mono ?_; rintro e w4 ⟨rfl, hk4⟩)
                    | (go_at_call 20; refine (HKI.out _).mono ?_; rintro e w3 ⟨rfl, hk3⟩; obtain ⟨f0, f1, f2⟩ := HQ.out w3 hk3)
                    | fail)
                  have HB3 := hide (HSK.out w4 (hk3.then hk4))
                  go_roundw
                  case rel => exact ⟨j3 + 1, by omega, by go_num, HB3.out⟩
                  case measure => simp [intOf]; omega
                · have hkb6 : (kd != 6) = true := by simpa using hk6
                  have HS6 : Hid (kd ≠ 6) := hk6
                  clear hk6
                  go_wp2_with (first
                    | (go_at_call 20; refine (HKI.out w3).mono ?_; rintro e w4 ⟨rfl, hk4⟩; obtain ⟨g0, g1, g2⟩ := HQ.out w4 (hk3.then hk4))
                    | (go_at_call 20; refine (HKI.out _).mono ?_; rintro e w3 ⟨rfl, hk3⟩; obtain ⟨f0, f1, f2⟩ := HQ.out w3 hk3)
                    | (go_at_call 11; refine (HST.out w4 HS7.out HS6.out (hk3.then hk4)).mono ?_; rintro e w5 ⟨⟨bb, rfl⟩, hB5⟩)
                    | fail)
                  go_roundw
                  case rel => exact ⟨j3 + 1, by omega, by go_num, hB5.out⟩
                  case measure => simp [intOf]; omega
            · have hji3 : ¬ (j3 : Int) < (L3.length : Int) := by omega
              have hj3' : j3 ≤ 200 := by omega
              obtain ⟨hbk0, halT, hbaT⟩ := HBK.out SW hfr
              have x1 := hB3.x1
              have HBC : Hid (Calls Tryz.prog 26 #[.pointer (some ⟨r, 0, none⟩), .int .i64 kn] wr fun e w' => e = .returned (.int .i64 0) ∧ Bx wr own w' x q B (1 + i + 1 + 1 + j3 + 1) (i + j3) (SW.back kn) SR Q Q r rr) := by
                have := (Bx.refl hB3).back (by omega) kn
                rw [hbk0] at this
                exact this
              obtain ⟨T, HT⟩ : ∃ T, Hid (SW.back kn = T) := ⟨_, rfl⟩
              rw [HT.out] at HBC halT hbaT
              have HHE : Hid (∀ W : World, Bx wr own W x q B (1 + i + 1 + 1 + j3 + 1) (i + j3) T SR Q Q r rr → Calls Tryz.prog 14 #[.pointer (some ⟨r, 0, none⟩)] W fun e w' => e = .returned (.string X) ∧ w' = W) := fun W h => by
                have := h.head
                rw [halT.head, HX.out] at this
                exact this
              have HUS : Hid (∀ W : World, Bx wr own W x q B (1 + i + 1 + 1 + j3 + 1) (i + j3) T SR Q Q r rr → Calls Tryz.prog 12 #[.pointer (some ⟨r, 0, none⟩)] W fun e w' => e = .returned (.int .i64 (U : Int)) ∧ w' = W) := fun W h => by
                have := h.used
                rw [halT.usedN, HU.out] at this
                exact this
              have HCH : Hid (∀ W : World, Bx wr own W x q B (1 + i + 1 + 1 + j3 + 1) (i + j3) T SR Q Q r rr → Calls Tryz.prog 17 #[.pointer (some ⟨r, 0, none⟩)] W fun e w' => ∃ v, e = .returned v ∧ Ow (Value.int .i64) 3 w' W.heap.size v l ∧ Bx wr own w' x q B (1 + i + 1 + 1 + j3 + 1 + 1) (i + j3) T SR Q Q r rr) := fun W h => by
                have := h.changed (by omega)
                rw [halT.1, halT.2, hbaT, HLL.out] at this
                refine this.mono ?_
                rintro e w' ⟨v, rfl, c1, c2, _⟩
                exact ⟨v, rfl, c1, c2⟩
              have hl1 : l.length ≤ 1000000 := by
                have h2 := chg_len S1 HL1.out
                rw [HLL.out] at h2
                exact h2
              have HSA : Hid (∀ (W : World) (v6 : Value) (c : Nat), Bx wr own W x q B (1 + i + 1 + 1 + j3 + 1 + 1) (i + j3) T SR Q Q r rr → Ow (Value.int .i64) 3 W c v6 l → Calls Tryz.prog 16 #[v6, .slice va vl vc] W fun e w' => e = .returned (.bool true) ∧ Bx wr own w' x q B (1 + i + 1 + 1 + j3 + 1 + 1) (i + j3) T SR Q Q r rr) := fun W v6 c h h1 => by
                obtain ⟨own', _, d7⟩ := hD3.bx h
                refine (sameInts_sl v6 _ l _ _ W h1.sl d7.hv.sl hl1).mono ?_
                rintro e w' ⟨rfl, hk⟩
                exact ⟨rfl, h.keep hk⟩
              have HFN : Hid (∀ W : World, Bx wr own W x q B (1 + i + 1 + 1 + j3 + 1 + 1) (i + j3) T SR Q Q r rr → ∃ own', Bp W own' x q B (1 + i + 1 + 1 + j3 + 1 + 1) (i + j3) T SR Q Q r rr ∧ Dt W own' c5 c4 (.slice (some ⟨gU, 0, none⟩) j uc) (.slice va vl vc) (rds S1 j) l ∧ Kp none' w W) := fun W h => by
                have hlow := h.low (fun k hk => hB3.lo k hk) w hK3 hs1
                obtain ⟨own', p8, d8⟩ := hD3.bx h
                exact ⟨own', p8, d8, hlow⟩
              have HALT := hide halT
              have hUU : ((U : Int) != (U : Int)) = false := by simp
              have hXX : (X.toList == X.toList) = true := by simp
              clear hB3 hfr hal hD3 hK3 hbk0 halT hbaT HBK HAL HSV
              go_wp2_with (first
                | (go_at_call 26; refine HBC.out.mono ?_; rintro e w6 ⟨rfl, hB6⟩; have y1 := hB6.cells.2.1)
                | (go_at_call 14; refine (HHE.out _ hB6).mono ?_; rintro e w' ⟨rfl, hw'⟩; obtain rfl := hw'.symm)
                | (go_at_call 12; refine (HUS.out _ hB6).mono ?_; rintro e w' ⟨rfl, hw'⟩; obtain rfl := hw'.symm)
                | (go_at_call 17; refine (HCH.out _ hB6).mono ?_; rintro e w7 ⟨v7, rfl, hO7, hB7⟩; have HO7 := hide hO7; obtain ⟨a7, c7, rfl, _⟩ := hO7.open; clear hO7)
                | (go_at_call 16; refine (HSA.out w7 _ _ hB7 HO7.out).mono ?_; rintro e w8 ⟨rfl, hB8⟩)
                | fail)
              obtain ⟨own8, p8, d8, hK8⟩ := HFN.out w8 hB8
              have x08 := p8.x0
              have x18 := p8.x1
              have hpa8 := (Bx.refl p8).cpages
              have HRD : Hid (∀ k : Nat, Calls Tryz.prog 25 #[.pointer (some ⟨r, 0, none⟩), .int .i64 (k : Int)] w8 fun e w' => e = .returned (.tuple #[.string (S1.read (k : Int)).1, .int .i64 (S1.read (k : Int)).2]) ∧ w' = w8) := fun k => by
                have := (Bx.refl p8).read (k : Int)
                rw [HALT.out.read] at this
                exact this
              have HTX : Hid (∀ k : Nat, k < j → w8.cell? ⟨gU, k, none⟩ = some (.string (S1.read (k : Int)).1)) := fun k hk => by
                have h1 := (d8.hu.cellAt k (by rw [rds_len]; exact hk)).1
                rw [rds_at S1 j k hk] at h1
                exact h1
              have HK8 := hide hK8
              rw [← HJQ.out] at hpa8
              clear p8 d8 hK8 hB6 hB7 hB8 HO7 HFN HSA HCH HUS HHE HBC
              go_loopw [19] (fun t wx => w8 = wx ∧ ∃ j4 : Nat, j4 ≤ j ∧ t = .int .i64 j4) (fun t _ => j - (intOf t).toNat)
              case atStart => exact ⟨rfl, 0, Nat.zero_le _, rfl⟩
              case round =>
                obtain ⟨rfl, j4, hj4, rfl⟩ := hrel
                by_cases hlt4 : j4 < j
                · have hji4 : (j4 : Int) < (j : Int) := by omega
                  have hrd := HRD.out j4
                  have htx := HTX.out j4 hlt4
                  obtain ⟨Y, HY⟩ : ∃ Y, Hid ((S1.read (j4 : Int)).1 = Y) := ⟨_, rfl⟩
                  obtain ⟨E, HE⟩ : ∃ E, Hid ((S1.read (j4 : Int)).2 = E) := ⟨_, rfl⟩
                  rw [HY.out, HE.out] at hrd
                  rw [HY.out] at htx
                  have hYY : (Y.toList == Y.toList) = true := by simp
                  go_wp2_with (first
                    | (go_at_call 24; refine hpa8.mono ?_; rintro e w' ⟨rfl, hw'⟩; obtain rfl := hw'.symm)
                    | (go_at_call 25; refine hrd.mono ?_; rintro e w' ⟨rfl, hw'⟩; obtain rfl := hw'.symm)
                    | fail)
                  go_roundw
                  case rel => exact ⟨by first | trivial | rfl, j4 + 1, by omega, by go_num⟩
                  case measure => simp [intOf]; omega
                · have hji4 : ¬ (j4 : Int) < (j : Int) := by omega
                  go_wp2_with (first
                    | (go_at_call 24; refine hpa8.mono ?_; rintro e w' ⟨rfl, hw'⟩; obtain rfl := hw'.symm)
                    | fail)
                  go_ret
                  exact ⟨rfl, HK8.out.grown⟩

end Go.Proofs.YtmnedhlgplkfhaaGreat.spaceBack
