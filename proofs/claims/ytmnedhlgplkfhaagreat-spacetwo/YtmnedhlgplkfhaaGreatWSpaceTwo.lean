/- The walk of the law SpaceTwo. Conditions: those that the theorem states. -/
import Derived.Test.YtmnedhlgplkfhaaGreatSBv
namespace Go.Proofs.YtmnedhlgplkfhaaGreat.spaceTwo
open Go.RowKit
set_option linter.unusedVariables false

set_option maxRecDepth 100000 in
set_option maxHeartbeats 6400000 in
theorem walk (n0 : Int) (a : Option Addr) (len cap : Nat) (L : List Sop) (a' : Option Addr) (len' cap' : Nat) (L' : List Sop) (w : World) (hB : Sts Sop.cells 3 (fun o _ => o.ok) w.heap.size w (.slice a len cap) L) (hB' : Sts Sop.cells 3 (fun o _ => o.ok) w.heap.size w (.slice a' len' cap') L') :
    Calls Tryz.prog 4 #[.int .i64 n0, .slice a len cap, .slice a' len' cap'] w fun e w' => e = .returned (.bool true) ∧ w.grownBy w' none := by
  obtain ⟨L2, hL2, hL200, hlc, hcm, hcs'⟩ := sops_early hB
  obtain ⟨L3, hL3, hL300, hlc3, hcm3, hcs3⟩ := sops_early hB'
  have hea := searly_any a len cap
  rw [← hL2] at hea
  have hea3 := searly_any a' len' cap'
  rw [← hL3] at hea3
  have HEA : Hid (∀ W : World, Calls Tryz.prog 10 #[.slice a len cap] W fun e w' => e = .returned (.slice a L2.length cap) ∧ w' = W) := fun W => hea W hlc hcm
  have HEA3 : Hid (∀ W : World, Calls Tryz.prog 10 #[.slice a' len' cap'] W fun e w' => e = .returned (.slice a' L3.length cap') ∧ w' = W) := fun W => hea3 W hlc3 hcm3
  have HCS := hide hcs'
  have HCS3 := hide hcs3
  clear hB hB' hcs' hcs3 hL2 hL3 hea hea3
  have hnn := pagesN_le n0
  obtain ⟨n, HN⟩ : ∃ n, Hid (pagesN n0 = n) := ⟨_, rfl⟩
  rw [HN.out] at hnn
  have HPG : Hid (∀ w1 : World, Calls Tryz.prog 9 #[.int .i64 n0] w1 fun e w' => e = .returned (.int .i64 (n : Int)) ∧ w' = w1) := fun w1 => by
    have := spages_any n0 w1
    rw [HN.out] at this
    exact this
  have HBE : Hid (∀ w1 : World, Calls Tryz.prog 8 #[.int .i64 (n : Int)] w1 fun e w' => ∃ x own q r rr, e = .returned (.tuple #[.pointer (some ⟨x, 0, none⟩), .bool true]) ∧ Bp w' own x q w1.heap.size 1 0 (Sw.new (zeroP n)) (Sw.new (zeroP n)) (zeroP n) (zeroP n) r rr ∧ q.n = n ∧ Kp none' w1 w') := fun w1 => bbegin_any n w1 hnn.1 (by omega)
  go_enter Tryz.func4, Tryz.ntmps4
  go_upto_region 6 with (first
    | (go_at_call 7; refine (slives_any _).mono ?_; rintro e w1 ⟨rfl, hk1⟩)
    | (go_at_call 9; refine (HPG.out _).mono ?_; rintro e w' ⟨rfl, hw'⟩; obtain rfl := hw'.symm)
    | (go_at_call 8; refine (HBE.out w1).mono ?_; rintro e w2 ⟨x, own, q, r, rr, rfl, hB2, hqn, hk2⟩)
    | fail)
  have HB2 := hide hB2
  have hK2 := hk1.then hk2
  have hs1 := hk1.size
  obtain ⟨B, HBB⟩ : ∃ B, Hid (w1.heap.size = B) := ⟨_, rfl⟩
  rw [HBB.out] at HB2 hs1
  clear hB2 hk1 hk2 HBE HPG
  go_wp2_with (first
    | (go_at_call 10; first | (with_reducible refine (HEA.out _).mono ?_; rintro e w' ⟨rfl, hw'⟩; obtain rfl := hw'.symm) | (with_reducible refine (HEA3.out _).mono ?_; rintro e w' ⟨rfl, hw'⟩; obtain rfl := hw'.symm))
    | fail)
  go_loopw [9] (fun t wr => ∃ i : Nat, i ≤ L2.length ∧ t = .int .i64 i ∧ ∃ own S Q, Bp wr own x q B (1 + i) i S S Q Q r rr ∧ Kp none' w wr) (fun t _ => L2.length - (intOf t).toNat)
  case atStart => exact ⟨0, Nat.zero_le _, rfl, own, _, _, HB2.out, hK2⟩
  case round =>
    obtain ⟨i, hi, rfl, own, S, Q, hBr, hK⟩ := hrel
    clear HB2 hK2 HEA HEA3
    by_cases hlt : i < L2.length
    · have hii : (i : Int) < (L2.length : Int) := by omega
      obtain ⟨b, off, rfl, hbl, q0, q1, q2⟩ := HCS.out i hlt
      obtain ⟨o, HOO⟩ : ∃ o, Hid (L2[i] = o) := ⟨_, hide rfl⟩
      rw [HOO.out] at q0 q1 q2
      have e0 := hK.cell q0 (fun h => h)
      have e1 := hK.cell q1 (fun h => h)
      have e2 := hK.cell q2 (fun h => h)
      have hki := skind_any o wr
      obtain ⟨kd, HKD⟩ : ∃ kd, Hid (o.kind = kd) := ⟨_, rfl⟩
      rw [HKD.out] at hki
      have HST : Hid (∀ W : World, Kp none' wr W → Calls Tryz.prog 11 #[.pointer (some ⟨x, 0, none⟩), .agg o.cells] W fun e w' => e = .returned (.bool true) ∧ ∃ own S Q, Bp w' own x q B (1 + (i + 1)) (i + 1) S S Q Q r rr ∧ Kp none' w w') := fun W hW => by
        have hBW := hBr.keep hW
        refine (bstep_any o hBW (by omega) (by omega)).mono ?_
        rintro e w' ⟨rfl, hBx⟩
        have hlow := hBx.low (fun k hk => hBW.lo k hk) w (hK.then hW) hs1
        obtain ⟨o', p1, _, _⟩ := hBx
        exact ⟨rfl, o', _, _, p1, hlow⟩
      have HQ : Hid (∀ W : World, Kp none' wr W → W.cell? ⟨b, off + i * 3, none⟩ = some (.int .i64 o.k) ∧ W.cell? ⟨b, off + i * 3 + 1, none⟩ = some (.int .i64 o.n) ∧ W.cell? ⟨b, off + i * 3 + 2, none⟩ = some (.int .u8 (o.b.toNat : Int))) := fun W hW => ⟨hW.cell e0 (fun h => h), hW.cell e1 (fun h => h), hW.cell e2 (fun h => h)⟩
      have HBN : Hid (∀ W : World, Kp none' wr W → ∃ own S Q, Bp W own x q B (1 + (i + 1)) (i + 1) S S Q Q r rr ∧ Kp none' w W) := fun W hW => ⟨_, S, Q, (hBr.keep hW).more (by omega) (by omega), hK.then hW⟩
      obtain ⟨k0, n1, b8⟩ := o
      unfold Sop.cells at hki HST
      dsimp only at hki HST HQ e0 e1 e2
      have HKI := hide hki
      clear hki hBr hK q0 q1 q2
      by_cases hk7 : kd = 7
      · subst hk7
        go_wp2_with (first
          | (go_at_call 20; refine HKI.out.mono ?_; rintro e w3 ⟨rfl, hk3⟩)
          | fail)
        have HB3 := hide (HBN.out w3 hk3)
        go_roundw
        case rel => exact ⟨i + 1, by omega, by go_num, HB3.out⟩
        case measure => simp [intOf]; omega
      · have hkb : (kd != 7) = true := by simpa using hk7
        clear hk7
        go_wp2_with (first
          | (go_at_call 20; refine HKI.out.mono ?_; rintro e w3 ⟨rfl, hk3⟩; obtain ⟨f0, f1, f2⟩ := HQ.out w3 hk3)
          | (go_at_call 11; refine (HST.out w3 hk3).mono ?_; rintro e w4 ⟨rfl, hB4⟩; have HB4 := hide hB4; clear hB4)
          | fail)
        go_roundw
        case rel => exact ⟨i + 1, by omega, by go_num, HB4.out⟩
        case measure => simp [intOf]; omega
    · have hi200 : i ≤ 200 := by omega
      have hiL : ¬ (i : Int) < (L2.length : Int) := by omega
      have HST : Hid (Calls Tryz.prog 11 #[.pointer (some ⟨x, 0, none⟩), .agg #[.int .i64 7, .int .i64 0, .int .u8 0]] wr fun e w' => e = .returned (.bool true) ∧ ∃ own S Q, Bp w' own x q B (1 + (i + 1)) (i + 1) S S Q Q r rr ∧ Kp none' w w') := by
        refine (bstep_any ⟨7, 0, 0⟩ hBr (by omega) (by omega)).mono ?_
        rintro e w' ⟨rfl, hBx⟩
        have hlow := hBx.low (fun k hk => hBr.lo k hk) w hK hs1
        obtain ⟨o', p1, _, _⟩ := hBx
        exact ⟨rfl, o', _, _, p1, hlow⟩
      clear hBr hK
      go_upto_region 14 with (first
        | (go_at_call 11; refine HST.out.mono ?_; rintro e w4 ⟨rfl, own4, S4, Q4, hB4, hK4⟩)
        | fail)
      have HBG := hide ((Bx.refl hB4).begin_ (by omega))
      have HB4 := hide hB4
      have HLO4 := hide hB4.lo
      have x0 := hB4.x0
      clear hB4
      go_upto_region 17 with (first
        | (go_at_call 21; refine HBG.out.mono ?_; rintro e w5 ⟨r', rfl, y1, f1, hB5⟩)
        | fail)
      obtain ⟨w6, HW6⟩ : ∃ w6, Hid (w5.setCell ⟨x, 1, none⟩ (.pointer (some ⟨r', 0, none⟩)) = w6) := ⟨_, rfl⟩
      rw [HW6.out] at hB5
      have HB5 := hide hB5
      clear hB5
      go_upto_region 18 with fail
      rw [HW6.out]
      obtain ⟨rp, la, lc, z2, _⟩ := HB5.out.pages
      have HRB := hide (HB5.out.rbegin_ rp z2)
      go_upto_region 19 with (first
        | (go_at_call 22; refine HRB.out.mono ?_; rintro e w7 ⟨rr', rfl, y3, f3, hB7⟩)
        | fail)
      have HS7 : Hid (∃ own, Bp (w7.setCell ⟨x, 3, none⟩ (.pointer (some ⟨rr', 0, none⟩))) own x q B (1 + (i + 1) + 1) (i + 1) (Sw.new Q4) (Sw.new Q4) Q4 Q4 r' rr' ∧ Kp none' w (w7.setCell ⟨x, 3, none⟩ (.pointer (some ⟨rr', 0, none⟩)))) := by
        have hlow := hB7.low (fun k hk => HLO4.out k hk) w hK4 hs1
        obtain ⟨o', p1, _, _⟩ := hB7
        exact ⟨o', p1, hlow⟩
      clear hB7
      go_wp2
      go_loopw [12] (fun t wr => ∃ j : Nat, j ≤ L3.length ∧ t = .int .i64 j ∧ ∃ own S Q, Bp wr own x q B (1 + (i + 1) + 1 + j) (i + 1 + j) S S Q Q r' rr' ∧ Kp none' w wr) (fun t _ => L3.length - (intOf t).toNat)
      case atStart =>
        obtain ⟨o7, p7, k7⟩ := HS7.out
        exact ⟨0, Nat.zero_le _, rfl, o7, _, _, p7, k7⟩
      case round =>
        obtain ⟨j, hj, rfl, own, S, Q, hBr, hK⟩ := hrel
        clear HS7 HB5 HBG HB4 HLO4 HRB HST hK4
        by_cases hlt3 : j < L3.length
        · have hji : (j : Int) < (L3.length : Int) := by omega
          obtain ⟨b, off, rfl, hbl, q0, q1, q2⟩ := HCS3.out j hlt3
          obtain ⟨o, HOO⟩ : ∃ o, Hid (L3[j] = o) := ⟨_, hide rfl⟩
          rw [HOO.out] at q0 q1 q2
          have kd : Kp none' wr wr.drew := Kp.drew none' wr
          have hBd := hBr.keep kd
          obtain ⟨od, HOD⟩ : ∃ od, Hid (grow own wr.heap.size 0 = od) := ⟨_, rfl⟩
          rw [HOD.out] at hBd
          have hod : od b = 0 := by
            rw [← HOD.out, grow_old (Nat.lt_of_lt_of_le (Nat.lt_of_lt_of_le hbl hs1) hBr.bw)]
            exact hBr.lo b (Nat.lt_of_lt_of_le hbl hs1)
          have e0 := (hK.then kd).cell q0 (fun h => h)
          have e1 := (hK.then kd).cell q1 (fun h => h)
          have e2 := (hK.then kd).cell q2 (fun h => h)
          have hst := bstep_any o hBd (by omega) (by omega)
          obtain ⟨S', HS'⟩ : ∃ S', Hid (S.does o = S') := ⟨_, rfl⟩
          obtain ⟨Q', HQ'⟩ : ∃ Q', Hid (S.doesQ o Q = Q') := ⟨_, rfl⟩
          rw [HS'.out, HQ'.out] at hst
          obtain ⟨k0, n1, b8⟩ := o
          unfold Sop.cells at hst
          dsimp only at hst q0 q1 q2 e0 e1 e2
          have HSTP := hide hst
          obtain ⟨U, HU⟩ : ∃ U, Hid (S'.usedN = U) := ⟨_, rfl⟩
          have HUS : Hid (∀ W : World, Bx wr.drew od W x q B (1 + (i + 1) + 1 + j + 1) (i + 1 + j + 1) S' S' Q' Q' r' rr' → Calls Tryz.prog 12 #[.pointer (some ⟨r', 0, none⟩)] W fun e w' => e = .returned (.int .i64 (U : Int)) ∧ w' = W) := fun W h => by
            have := h.used
            rw [HU.out] at this
            exact this
          have HRU : Hid (∀ W : World, Bx wr.drew od W x q B (1 + (i + 1) + 1 + j + 1) (i + 1 + j + 1) S' S' Q' Q' r' rr' → Calls Tryz.prog 13 #[.pointer (some ⟨rr', 0, none⟩)] W fun e w' => e = .returned (.int .i64 (U : Int)) ∧ w' = W) := fun W h => by
            have := h.rused
            rw [HU.out] at this
            exact this
          have HT : Hid (∀ (W : World) (tW tR : Nat) (SW SR : Sw) (QC QP : List ByteArray), Bx wr.drew od W x q B tW tR SW SR QC QP r' rr' → (W.cell? ⟨x, 1, none⟩ = some (.pointer (some ⟨r', 0, none⟩)) ∧ W.cell? ⟨x, 3, none⟩ = some (.pointer (some ⟨rr', 0, none⟩))) ∧ W.cell? ⟨b, off + j * 3, none⟩ = some (.int .i64 k0) ∧ W.cell? ⟨b, off + j * 3 + 1, none⟩ = some (.int .i64 n1) ∧ W.cell? ⟨b, off + j * 3 + 2, none⟩ = some (.int .u8 (b8.toNat : Int))) := fun W _ _ _ _ _ _ h => ⟨⟨h.cells.2.1, h.cells.2.2⟩, h.stay hod e0, h.stay hod e1, h.stay hod e2⟩
          have T0 := HT.out wr.drew _ _ _ _ _ _ (Bx.refl hBd)
          have HLO : Hid (∀ W : World, Bx wr.drew od W x q B (1 + (i + 1) + 1 + j + 1) (i + 1 + j + 1) S' S' Q' Q' r' rr' → ∃ own S Q, Bp W own x q B (1 + (i + 1) + 1 + (j + 1)) (i + 1 + (j + 1)) S S Q Q r' rr' ∧ Kp none' w W) := fun W h => by
            have hlow := h.low (fun k hk => hBd.lo k hk) w (hK.then kd) hs1
            obtain ⟨o', p1, _, _⟩ := h
            exact ⟨o', S', Q', p1, hlow⟩
          have hUU : ((U : Int) != (U : Int)) = false := by simp
          have hUU2 : ((U : Int) == (U : Int)) = true := by simp
          clear hst hBr hBd hK q0 q1 q2 e0 e1 e2
          go_upto_region 22 with fail
          go_region_held_law (fun W => (W.cell? ⟨x, 1, none⟩ = some (.pointer (some ⟨r', 0, none⟩)) ∧ W.cell? ⟨x, 3, none⟩ = some (.pointer (some ⟨rr', 0, none⟩))) ∧ W.cell? ⟨b, off + j * 3, none⟩ = some (.int .i64 k0) ∧ W.cell? ⟨b, off + j * 3 + 1, none⟩ = some (.int .i64 n1) ∧ W.cell? ⟨b, off + j * 3 + 2, none⟩ = some (.int .u8 (b8.toNat : Int))) (first | assumption) (first
            | (go_at_call 11; refine HSTP.out.mono ?_; rintro e w3 ⟨rfl, hB3⟩; have T3 := HT.out w3 _ _ _ _ _ _ hB3)
            | (go_at_call 12; refine (HUS.out _ hB3).mono ?_; rintro e w' ⟨rfl, hw'⟩; obtain rfl := hw'.symm)
            | (go_at_call 13; refine (HRU.out _ hB3).mono ?_; rintro e w' ⟨rfl, hw'⟩; obtain rfl := hw'.symm)
            | fail)
          all_goals (
            have HB6 := hide (HLO.out _ hB3)
            clear hB3
            go_wp2
            go_roundw
            case rel => exact ⟨j + 1, by omega, by go_num, HB6.out⟩
            case measure => simp [intOf]; omega)
        · have hji : ¬ (j : Int) < (L3.length : Int) := by omega
          have HKJ := hide hK
          clear hBr hK
          go_wp2
          go_ret
          exact ⟨rfl, HKJ.out.grown⟩

end Go.Proofs.YtmnedhlgplkfhaaGreat.spaceTwo
