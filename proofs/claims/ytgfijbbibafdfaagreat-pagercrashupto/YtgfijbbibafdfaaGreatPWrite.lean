/- Contracts, over the turned program: a pager's write (of a page, of an image). Conditions: those that each theorem states. -/
import Derived.Test.YtgfijbbibafdfaaGreatPLook
namespace Go.Proofs.YtgfijbbibafdfaaGreat
open Go.RowKit
set_option linter.unusedVariables false

theorem seq_ok (A B : List Stp) (D : Dv) (h : D.goE A = 0) (h' : (D.go A).goE B = 0) : D.goE (A ++ B) = 0 ∧ D.go (A ++ B) = (D.go A).go B := by
  rw [goE_append, go_append, if_pos h, if_pos h]
  exact ⟨h', rfl⟩
theorem seq_bad (A B C : List Stp) (D : Dv) (h : D.goE A = 0) (h' : (D.go A).goE B ≠ 0) : D.goE (A ++ B ++ C) = 9 ∧ D.go (A ++ B ++ C) = (D.go A).go B := by
  have h9 : (D.go A).goE B = 9 := (goE_or B (D.go A)).resolve_left h'
  have e1 : D.goE (A ++ B) = 9 := by rw [goE_append, if_pos h, h9]
  have e2 : D.go (A ++ B) = (D.go A).go B := by rw [go_append, if_pos h]
  rw [goE_append (A ++ B), go_append (A ++ B), e1, if_neg (by decide), if_neg (by decide), e2]
  exact ⟨rfl, rfl⟩
set_option maxRecDepth 100000 in
set_option maxHeartbeats 800000 in
theorem write_place (g k : Nat) (x : ByteArray) (p : Dp) (D : Dv) (w : World) (hc0 : w.cell? ⟨g, 0, none⟩ = some (.pointer (some ⟨p.d, 0, none⟩))) (hgp : ¬ p.mem g) (hD : Dev w p D) (h0 : 0 ≤ D.c) (h1 : D.c ≤ 999000) (hx : x.size = 256) (hk : k ≤ 160) (hn : ∀ j, j < 4 → placeN k j < D.n) :
    Calls Tryz.prog 52 #[.pointer (some ⟨g, 0, none⟩), .func (.func 43) #[] #[], .int .i64 k, .string x] w fun e w' => e = .returned (.int .i64 (D.goE (pgW (placeN k) x))) ∧ Dev w' p (D.go (pgW (placeN k) x)) ∧ Kp p.mem w w' := by
  have hE : cutE x = 0 := by simp [cutE, hx]
  have hL : cutL x = cuts x 4 := by simp [cutL, hx]
  have hlt0 := hD.lt
  have hlen := pgW_len (placeN k) x
  obtain ⟨E, HE⟩ : ∃ E, Hid (D.goE (pgW (placeN k) x) = E) := ⟨_, rfl⟩
  obtain ⟨F, HF⟩ : ∃ F, Hid (D.go (pgW (placeN k) x) = F) := ⟨_, rfl⟩
  rw [HE.out, HF.out]
  go_enter Tryz.func52, Tryz.ntmps52
  go_upto_region 4 with (go_at_call 66; refine (cut_any x _ (by unfold maxLen; omega)).mono ?_; rintro e w1 ⟨v, rfl, hO, hk1⟩; rw [hE]; rw [hL] at hO; obtain ⟨a, c, rfl, hcl⟩ := hO.open; rw [cuts_len])
  go_wp2
  go_loopw [24] (fun t wr => ∃ j : Nat, j ≤ 4 ∧ t = .int .i64 j ∧ D.goE ((pgW (placeN k) x).take j) = 0 ∧ Dev wr p (D.go ((pgW (placeN k) x).take j)) ∧ Kp p.mem w1 wr) (fun t _ => 4 - (intOf t).toNat)
  case atStart => exact ⟨0, Nat.zero_le _, rfl, rfl, hD.keptN hk1, Kp.refl _ _⟩
  case round =>
    obtain ⟨j, hj, rfl, hz, hDr, hK⟩ := hrel
    by_cases hlt : j < 4
    · have hji : (j : Int) < 4 := by omega
      obtain ⟨b, rfl, hb, hc⟩ := hcl j (by rw [cuts_len]; exact hlt)
      have hbm : ¬ p.mem b := fun h => by have := hlt0 b h; omega
      have hcx : wr.cell? ⟨b, j, none⟩ = some (.string (mkA (secL x j))) := by
        rw [hK.cell hc hbm]
        congr 2
        simp [cuts, mkA, secL]
      have hcr : wr.drew.cell? ⟨g, 0, none⟩ = some (.pointer (some ⟨p.d, 0, none⟩)) := hK.cell (hk1.cell hc0 (fun h => h)) hgp
      have HW : Hid (wrap64 (126 + 4 * (k : Int) + (j : Int)) = (placeN k j : Int)) := by show _ = _; unfold wrap64 placeN; omega
      have hD2 := hDr.drew
      have hgn := go_n ((pgW (placeN k) x).take j) D
      have htl : ((pgW (placeN k) x).take j).length = j := by rw [List.length_take, hlen]; omega
      have hel : (pgW (placeN k) x)[j]'(by omega) = .wr (placeN k j) (secL x j) := by simp [pgW]
      have ht : (pgW (placeN k) x).take (j + 1) = (pgW (placeN k) x).take j ++ [.wr (placeN k j) (secL x j)] := by rw [List.take_succ_eq_append_getElem (by omega), hel]
      have hall : pgW (placeN k) x = (pgW (placeN k) x).take j ++ [.wr (placeN k j) (secL x j)] ++ (pgW (placeN k) x).drop (j + 1) := by rw [← ht, List.take_append_drop]
      have hwg := write_go (D.go ((pgW (placeN k) x).take j)) (placeN k j) (secL x j) (by rw [hgn.1]; exact hn j hlt) (secL_len hx hlt)
      have hms : (mkA (secL x j)).size ≤ maxLen := by
        show (secL x j).toArray.size ≤ maxLen
        rw [List.size_toArray, secL_len hx hlt]
        unfold maxLen
        omega
      have hD0 : 0 ≤ (D.go ((pgW (placeN k) x).take j)).c := by omega
      have hD1 : (D.go ((pgW (placeN k) x).take j)).c ≤ 1000000 := by omega
      have Hok := hide (seq_ok ((pgW (placeN k) x).take j) [.wr (placeN k j) (secL x j)] D hz)
      have Hbad := hide (seq_bad ((pgW (placeN k) x).take j) [.wr (placeN k j) (secL x j)] ((pgW (placeN k) x).drop (j + 1)) D hz)
      have HALL := hide hall
      have HT := hide ht
      rw [← HT.out] at Hok
      rw [← HALL.out, HE.out, HF.out] at Hbad
      have HWG := hide hwg
      clear hall ht hel htl hgn hwg
      obtain ⟨M, HM⟩ : ∃ M, Hid (mkA (secL x j) = M) := ⟨_, rfl⟩
      rw [show (⟨(secL x j).toArray⟩ : ByteArray) = mkA (secL x j) from rfl, HM.out] at HWG
      rw [HM.out] at hcx hms
      generalize D.go ((pgW (placeN k) x).take j) = Dj at *
      obtain ⟨q, HQ⟩ : ∃ q, Hid (placeN k j = q) := ⟨_, rfl⟩
      rw [HQ.out] at HW HWG Hok Hbad
      obtain ⟨st, HST⟩ : ∃ st, Hid (Stp.wr q (secL x j) = st) := ⟨_, rfl⟩
      rw [HST.out] at HWG Hok Hbad
      have hgp2 := hgp
      rcases goE_or [st] Dj with he | he
      · have hE0 : wrE Dj (q : Int) M = 0 := by rw [HWG.out.2]; exact he
        have HO2 := hide (Hok.out he)
        rw [HWG.out.1.symm] at HO2
        clear Hok Hbad hcl hc
        go_upto_region 7 with fail
        go_region_held_law (fun W => W.cell? ⟨g, 0, none⟩ = some (.pointer (some ⟨p.d, 0, none⟩))) (first | assumption) (first
          | (go_at_call 43; refine (place_any _ _ _).mono ?_; rintro e w' ⟨rfl, rfl⟩; rw [HW.out])
          | (go_at_call 34; refine (write_any p Dj _ _ _ hD2 hD0 hD1 hms).mono ?_; rintro e w2 ⟨rfl, hD3, hk3⟩; rw [hE0]; have T0 : w2.cell? ⟨g, 0, none⟩ = some (.pointer (some ⟨p.d, 0, none⟩)) := hk3.cell hcr hgp2)
          | fail)
        go_wp2
        go_roundw
        case rel => exact ⟨j + 1, by omega, by go_num, HO2.out.1, by rw [HO2.out.2]; exact hD3, (hK.then (Kp.drew _ _)).then hk3⟩
        case measure => simp [intOf]; omega
      · have hE0 : wrE Dj (q : Int) M = 9 := by rw [HWG.out.2]; exact he
        have HO2 := hide (Hbad.out (by rw [he]; decide))
        rw [HWG.out.1.symm] at HO2
        clear Hok Hbad hcl hc
        go_upto_region 7 with fail
        go_region_held_law (fun W => W.cell? ⟨g, 0, none⟩ = some (.pointer (some ⟨p.d, 0, none⟩))) (first | assumption) (first
          | (go_at_call 43; refine (place_any _ _ _).mono ?_; rintro e w' ⟨rfl, rfl⟩; rw [HW.out])
          | (go_at_call 34; refine (write_any p Dj _ _ _ hD2 hD0 hD1 hms).mono ?_; rintro e w2 ⟨rfl, hD3, hk3⟩; rw [hE0]; have T0 : w2.cell? ⟨g, 0, none⟩ = some (.pointer (some ⟨p.d, 0, none⟩)) := hk3.cell hcr hgp2)
          | fail)
        go_wp2
        go_ret
        exact ⟨by rw [HO2.out.1]; rfl, by rw [HO2.out.2]; exact hD3, (hk1.nThen (hK.then (Kp.drew _ _))).then hk3⟩
    · obtain rfl : j = 4 := by omega
      rw [List.take_of_length_le (by omega)] at hz hDr
      rw [HE.out] at hz
      rw [HF.out] at hDr
      go_wp2
      go_ret
      exact ⟨by rw [hz]; rfl, hDr, hk1.nThen hK⟩
set_option maxRecDepth 100000 in
set_option maxHeartbeats 800000 in
theorem write_image (g k : Nat) (x : ByteArray) (p : Dp) (D : Dv) (w : World) (hc0 : w.cell? ⟨g, 0, none⟩ = some (.pointer (some ⟨p.d, 0, none⟩))) (hgp : ¬ p.mem g) (hD : Dev w p D) (h0 : 0 ≤ D.c) (h1 : D.c ≤ 999000) (hx : x.size = 256) (hk : k ≤ 160) (hn : ∀ j, j < 4 → imageN k j < D.n) :
    Calls Tryz.prog 52 #[.pointer (some ⟨g, 0, none⟩), .func (.func 48) #[] #[], .int .i64 k, .string x] w fun e w' => e = .returned (.int .i64 (D.goE (pgW (imageN k) x))) ∧ Dev w' p (D.go (pgW (imageN k) x)) ∧ Kp p.mem w w' := by
  have hE : cutE x = 0 := by simp [cutE, hx]
  have hL : cutL x = cuts x 4 := by simp [cutL, hx]
  have hlt0 := hD.lt
  have hlen := pgW_len (imageN k) x
  obtain ⟨E, HE⟩ : ∃ E, Hid (D.goE (pgW (imageN k) x) = E) := ⟨_, rfl⟩
  obtain ⟨F, HF⟩ : ∃ F, Hid (D.go (pgW (imageN k) x) = F) := ⟨_, rfl⟩
  rw [HE.out, HF.out]
  go_enter Tryz.func52, Tryz.ntmps52
  go_upto_region 4 with (go_at_call 66; refine (cut_any x _ (by unfold maxLen; omega)).mono ?_; rintro e w1 ⟨v, rfl, hO, hk1⟩; rw [hE]; rw [hL] at hO; obtain ⟨a, c, rfl, hcl⟩ := hO.open; rw [cuts_len])
  go_wp2
  go_loopw [24] (fun t wr => ∃ j : Nat, j ≤ 4 ∧ t = .int .i64 j ∧ D.goE ((pgW (imageN k) x).take j) = 0 ∧ Dev wr p (D.go ((pgW (imageN k) x).take j)) ∧ Kp p.mem w1 wr) (fun t _ => 4 - (intOf t).toNat)
  case atStart => exact ⟨0, Nat.zero_le _, rfl, rfl, hD.keptN hk1, Kp.refl _ _⟩
  case round =>
    obtain ⟨j, hj, rfl, hz, hDr, hK⟩ := hrel
    by_cases hlt : j < 4
    · have hji : (j : Int) < 4 := by omega
      obtain ⟨b, rfl, hb, hc⟩ := hcl j (by rw [cuts_len]; exact hlt)
      have hbm : ¬ p.mem b := fun h => by have := hlt0 b h; omega
      have hcx : wr.cell? ⟨b, j, none⟩ = some (.string (mkA (secL x j))) := by
        rw [hK.cell hc hbm]
        congr 2
        simp [cuts, mkA, secL]
      have hcr : wr.drew.cell? ⟨g, 0, none⟩ = some (.pointer (some ⟨p.d, 0, none⟩)) := hK.cell (hk1.cell hc0 (fun h => h)) hgp
      have HW : Hid (wrap64 (2 + 4 * (k : Int) + (j : Int)) = (imageN k j : Int)) := by show _ = _; unfold wrap64 imageN; omega
      have hD2 := hDr.drew
      have hgn := go_n ((pgW (imageN k) x).take j) D
      have htl : ((pgW (imageN k) x).take j).length = j := by rw [List.length_take, hlen]; omega
      have hel : (pgW (imageN k) x)[j]'(by omega) = .wr (imageN k j) (secL x j) := by simp [pgW]
      have ht : (pgW (imageN k) x).take (j + 1) = (pgW (imageN k) x).take j ++ [.wr (imageN k j) (secL x j)] := by rw [List.take_succ_eq_append_getElem (by omega), hel]
      have hall : pgW (imageN k) x = (pgW (imageN k) x).take j ++ [.wr (imageN k j) (secL x j)] ++ (pgW (imageN k) x).drop (j + 1) := by rw [← ht, List.take_append_drop]
      have hwg := write_go (D.go ((pgW (imageN k) x).take j)) (imageN k j) (secL x j) (by rw [hgn.1]; exact hn j hlt) (secL_len hx hlt)
      have hms : (mkA (secL x j)).size ≤ maxLen := by
        show (secL x j).toArray.size ≤ maxLen
        rw [List.size_toArray, secL_len hx hlt]
        unfold maxLen
        omega
      have hD0 : 0 ≤ (D.go ((pgW (imageN k) x).take j)).c := by omega
      have hD1 : (D.go ((pgW (imageN k) x).take j)).c ≤ 1000000 := by omega
      have Hok := hide (seq_ok ((pgW (imageN k) x).take j) [.wr (imageN k j) (secL x j)] D hz)
      have Hbad := hide (seq_bad ((pgW (imageN k) x).take j) [.wr (imageN k j) (secL x j)] ((pgW (imageN k) x).drop (j + 1)) D hz)
      have HALL := hide hall
      have HT := hide ht
      rw [← HT.out] at Hok
      rw [← HALL.out, HE.out, HF.out] at Hbad
      have HWG := hide hwg
      clear hall ht hel htl hgn hwg
      obtain ⟨M, HM⟩ : ∃ M, Hid (mkA (secL x j) = M) := ⟨_, rfl⟩
      rw [show (⟨(secL x j).toArray⟩ : ByteArray) = mkA (secL x j) from rfl, HM.out] at HWG
      rw [HM.out] at hcx hms
      generalize D.go ((pgW (imageN k) x).take j) = Dj at *
      obtain ⟨q, HQ⟩ : ∃ q, Hid (imageN k j = q) := ⟨_, rfl⟩
      rw [HQ.out] at HW HWG Hok Hbad
      obtain ⟨st, HST⟩ : ∃ st, Hid (Stp.wr q (secL x j) = st) := ⟨_, rfl⟩
      rw [HST.out] at HWG Hok Hbad
      have hgp2 := hgp
      rcases goE_or [st] Dj with he | he
      · have hE0 : wrE Dj (q : Int) M = 0 := by rw [HWG.out.2]; exact he
        have HO2 := hide (Hok.out he)
        rw [HWG.out.1.symm] at HO2
        clear Hok Hbad hcl hc
        go_upto_region 7 with fail
        go_region_held_law (fun W => W.cell? ⟨g, 0, none⟩ = some (.pointer (some ⟨p.d, 0, none⟩))) (first | assumption) (first
          | (go_at_call 48; refine (image_any _ _ _).mono ?_; rintro e w' ⟨rfl, rfl⟩; rw [HW.out])
          | (go_at_call 34; refine (write_any p Dj _ _ _ hD2 hD0 hD1 hms).mono ?_; rintro e w2 ⟨rfl, hD3, hk3⟩; rw [hE0]; have T0 : w2.cell? ⟨g, 0, none⟩ = some (.pointer (some ⟨p.d, 0, none⟩)) := hk3.cell hcr hgp2)
          | fail)
        go_wp2
        go_roundw
        case rel => exact ⟨j + 1, by omega, by go_num, HO2.out.1, by rw [HO2.out.2]; exact hD3, (hK.then (Kp.drew _ _)).then hk3⟩
        case measure => simp [intOf]; omega
      · have hE0 : wrE Dj (q : Int) M = 9 := by rw [HWG.out.2]; exact he
        have HO2 := hide (Hbad.out (by rw [he]; decide))
        rw [HWG.out.1.symm] at HO2
        clear Hok Hbad hcl hc
        go_upto_region 7 with fail
        go_region_held_law (fun W => W.cell? ⟨g, 0, none⟩ = some (.pointer (some ⟨p.d, 0, none⟩))) (first | assumption) (first
          | (go_at_call 48; refine (image_any _ _ _).mono ?_; rintro e w' ⟨rfl, rfl⟩; rw [HW.out])
          | (go_at_call 34; refine (write_any p Dj _ _ _ hD2 hD0 hD1 hms).mono ?_; rintro e w2 ⟨rfl, hD3, hk3⟩; rw [hE0]; have T0 : w2.cell? ⟨g, 0, none⟩ = some (.pointer (some ⟨p.d, 0, none⟩)) := hk3.cell hcr hgp2)
          | fail)
        go_wp2
        go_ret
        exact ⟨by rw [HO2.out.1]; rfl, by rw [HO2.out.2]; exact hD3, (hk1.nThen (hK.then (Kp.drew _ _))).then hk3⟩
    · obtain rfl : j = 4 := by omega
      rw [List.take_of_length_le (by omega)] at hz hDr
      rw [HE.out] at hz
      rw [HF.out] at hDr
      go_wp2
      go_ret
      exact ⟨by rw [hz]; rfl, hDr, hk1.nThen hK⟩

end Go.Proofs.YtgfijbbibafdfaaGreat
