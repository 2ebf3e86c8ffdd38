/- Contracts, over the turned program: a pager's goBack. Conditions: those that each theorem states. -/
import Derived.Test.YtgfijbbibafdfaaGreatPSettle2
namespace Go.Proofs.YtgfijbbibafdfaaGreat
open Go.RowKit
set_option linter.unusedVariables false

theorem infoChg : (Tryz.prog.info? 56).map (fun i => (i.zero, i.size, i.bytes)) = some (some (.agg #[.int .i64 0, .string ByteArray.empty]), 2, 24) := by kernel_rfl
theorem infoChg2 : (Tryz.prog.info? 56).map (·.size) = some 2 := by kernel_rfl
def chg0 : Chg := ⟨0, ByteArray.empty⟩
theorem made_chgs (n : Nat) : (madeCells #[Value.int .i64 0, .string ByteArray.empty] (n * 2)).toList = ccs (List.replicate n chg0) := by
  refine List.ext_getElem? fun i => ?_
  by_cases h : i < n * 2
  · have e := ccs_at (List.replicate n chg0) (i / 2) (i % 2) (by rw [List.length_replicate]; omega) (by omega)
    rw [show i / 2 * 2 + i % 2 = i by omega] at e
    rw [e, List.getElem_replicate, Array.getElem?_toList]
    unfold madeCells
    rw [Array.getElem?_map, Array.getElem?_range, if_pos h]
    have hm : i % 2 = 0 ∨ i % 2 = 1 := by omega
    rcases hm with h0 | h0 <;> simp [h0, Chg.cells, chg0]
  · rw [List.getElem?_eq_none (by rw [Array.length_toList, size_madeCells]; omega), List.getElem?_eq_none (by rw [ccs_len, List.length_replicate]; omega)]
/-- make([]Change, n). -/
theorem make_chgs (w : World) (n : Nat) (hn : n ≤ 1000000) : ∃ wa, (Instr.makeSlice 35 (.int .i64 n) (.int .i64 n)).run Tryz.prog w = .ok (.slice (some ⟨w.heap.size, 0, none⟩) n n) wa ∧ OwC 56 wa w.heap.size (.slice (some ⟨w.heap.size, 0, none⟩) n n) (List.replicate n chg0) ∧ Kp none' w wa := by
  obtain ⟨i0, hi, hz0, hz1, hz2⟩ := info_parts infoChg
  obtain ⟨wa, hmk, hOa, hga⟩ := run_make_full (P := Tryz.prog) w w.heap.size 35 56 i0 _ 2 Tryz.underlying35 hi hz0 hz1 .i64 .i64 n (by rw [hz2]; omega) (by unfold maxLen; omega) (Nat.le_refl _)
  refine ⟨wa, hmk, ?_, Kp.ofN hga _⟩
  unfold OwC
  rw [List.length_replicate, ← made_chgs]
  exact hOa
theorem set_nextC (pre : List Chg) (m : Nat) (x : Chg) : (pre ++ List.replicate (m + 1) chg0).set pre.length x = (pre ++ [x]) ++ List.replicate m chg0 := by
  rw [List.set_append_right _ _ (Nat.le_refl _), Nat.sub_self, List.replicate_succ, List.set_cons_zero, List.append_assoc]
  rfl

/-- What a journal says that is there. -/
def imgD (D : Dv) (L : List Int) : List Chg := L.mapIdx fun k z => ⟨z, lookS D (imageN k)⟩
theorem imgD_len (D : Dv) (L : List Int) : (imgD D L).length = L.length := by simp [imgD]
theorem imgD_at (D : Dv) (L : List Int) (k : Nat) (h : k < L.length) : (imgD D L)[k]'(by rw [imgD_len]; exact h) = ⟨L[k], lookS D (imageN k)⟩ := by simp [imgD]
theorem imgD_take (D : Dv) (L : List Int) (k : Nat) (h : k < L.length) : (imgD D L).take (k + 1) = (imgD D L).take k ++ [⟨L[k], lookS D (imageN k)⟩] := by
  rw [List.take_succ_eq_append_getElem (by rw [imgD_len]; exact h), imgD_at D L k h]
theorem imgD_pages (D : Dv) (L : List Int) : (imgD D L).map Chg.page = L := by
  refine List.ext_getElem (by rw [List.length_map, imgD_len]) fun k h1 h2 => ?_
  rw [List.getElem_map, imgD_at D L k h2]
theorem catB_four (D : Dv) (f : Nat → Nat) (h : ∀ j, j < 4 → (D.at (f j)).length = 64) : (lookS D f).size = 256 := by
  have hs : ∀ s ∈ lkL D f 4, s.size = 64 := fun s hs => by
    obtain ⟨j, hj, rfl⟩ := List.mem_map.1 hs
    show (D.at (f j)).toArray.size = 64
    rw [List.size_toArray]
    exact h j (by simpa using hj)
  have ho : okJ (lkL D f 4) = true := by
    unfold okJ
    simp only [decide_eq_true_eq]
    exact ⟨lkL_len D f 4, hs⟩
  unfold lookS joinS
  rw [if_pos ho]
  show (catB (lkL D f 4)).toArray.size = 256
  rw [List.size_toArray, catB_len _ hs, lkL_len]
theorem Dev.atl {w : World} {p : Dp} {D : Dv} (h : Dev w p D) (k : Nat) (hk : k < D.n) : (D.at k).length = 64 := by
  unfold Dv.at
  cases hu : D.u k with
  | none => exact h.l1 k hk
  | some x => exact (h.l2 k x hu).2
theorem imgD_ok {w : World} {p : Dp} {D : Dv} {n : Nat} (h : Dev w p D) (hn : 126 ≤ D.n) {x : List UInt8} (he : dirE x = 0) (ha : allB n (dirL x) = true) : okC n (imgD D (dirL x)) := by
  have h2 := wE_ok (read_ok (s := mkA x) he).1
  have hl : (dirL x).length ≤ 31 := h2.1
  have hnd : (dirL x).Nodup := by
    have := h2.2
    unfold okP at this
    simp only [decide_eq_true_eq] at this
    exact this.2
  have hA : ∀ z ∈ dirL x, hasB n z = true := by
    unfold allB at ha
    rw [List.all_eq_true] at ha
    exact ha
  refine ⟨fun c hc => ?_, fun c hc => ?_, by rw [imgD_pages]; exact hnd, by rw [imgD_len]; exact hl⟩
  · have : c.page ∈ dirL x := by rw [← imgD_pages D (dirL x)]; exact List.mem_map_of_mem hc
    have := hA _ this
    simpa [hasB] using this
  · obtain ⟨k, hk, rfl⟩ := List.getElem_of_mem hc
    rw [imgD_len] at hk
    rw [imgD_at D _ k hk]
    exact catB_four D _ (fun j hj => h.atl _ (by unfold imageN; omega))
/-- Recovering: which steps; and what it answers. -/
def Dv.back (D : Dv) (n : Nat) : Dv := if says (D.at 0) = true ∧ dirE (D.at 1) = 0 ∧ allB n (dirL (D.at 1)) = true then D.go (stW (imgD D (dirL (D.at 1)))) else D
def Dv.backE (D : Dv) (n : Nat) : Int := if says (D.at 0) = true then (if dirE (D.at 1) = 0 ∧ allB n (dirL (D.at 1)) = true then D.goE (stW (imgD D (dirL (D.at 1)))) else 10) else 0

theorem size_mkA (x : List UInt8) (h : x.length = 64) : (mkA x).size ≤ maxLen := by
  show x.toArray.size ≤ maxLen
  rw [List.size_toArray, h]
  unfold maxLen
  omega
set_option maxRecDepth 100000 in
set_option maxHeartbeats 1600000 in
theorem goBack_any (g n : Nat) (p : Dp) (D : Dv) (c : Int) (bv : Value) (bl : List Chg) (w : World) (hP : Pag w g p n c bv bl) (hD : Dev w p D) (h0 : 0 ≤ D.c) (h1 : D.c ≤ 980000) (hn : 126 + 4 * n ≤ D.n) (hn2 : n ≤ 160) :
    Calls Tryz.prog 24 #[.pointer (some ⟨g, 0, none⟩)] w fun e w' => e = .returned (.int .i64 (D.backE n)) ∧ Dev w' p (D.back n) ∧ Kp p.mem w w' := by
  have hc0 := hP.c0
  have hgp := hP.gp
  have HR0 : Hid (rdL D 0 = D.at 0) := rdL_in D 0 (by omega)
  have HR1 : Hid (rdL D 1 = D.at 1) := rdL_in D 1 (by omega)
  have Hl0 : Hid ((D.at 0).length = 64) := hD.atl 0 (by omega)
  have Hl1 : Hid ((D.at 1).length = 64) := hD.atl 1 (by omega)
  have HS0 : Hid (saysB ⟨(D.at 0).toArray⟩ = says (D.at 0)) := rfl
  cases hsy : says (D.at 0) with
  | false =>
    have hB : D.back n = D := by unfold Dv.back; rw [hsy]; simp
    have hE : D.backE n = 0 := by unfold Dv.backE; rw [hsy]; simp
    rw [hB, hE]
    rw [hsy] at HS0
    go_enter Tryz.func24, Tryz.ntmps24
    go_wp2_with (first
      | (go_at_call 45; refine (read_any p D _ _ hD).mono ?_; rintro e w1 ⟨rfl, hk1⟩; rw [HR0.out])
      | (go_at_call 44; refine (marked_any _ _).mono ?_; rintro e w' ⟨rfl, rfl⟩; rw [HS0.out])
      | fail)
    go_ret
    exact ⟨rfl, hD.keptN hk1, hk1.mono (fun _ _ h => h.elim)⟩
  | true =>
    rw [hsy] at HS0
    have HE1 : Hid (rE ⟨(D.at 1).toArray⟩ = dirE (D.at 1)) := rfl
    have HL1 : Hid (rL ⟨(D.at 1).toArray⟩ = dirL (D.at 1)) := rfl
    have hlen : (dirL (D.at 1)).length ≤ 255 := rL_len _
    by_cases hde : dirE (D.at 1) = 0
    · cases hall : allB n (dirL (D.at 1)) with
      | false =>
        have hB : D.back n = D := by unfold Dv.back; rw [hall]; simp
        have hE : D.backE n = 10 := by unfold Dv.backE; rw [hsy, hall]; simp
        rw [hB, hE]
        rw [hde] at HE1
        have HALL := hide hall
        clear hall hB hE hde
        go_enter Tryz.func24, Tryz.ntmps24
        go_upto_region 3 with (first
          | (go_at_call 45; refine (read_any p D _ _ hD).mono ?_; rintro e w1 ⟨rfl, hk1⟩; rw [HR0.out])
          | (go_at_call 44; refine (marked_any _ _).mono ?_; rintro e w' ⟨rfl, rfl⟩; rw [HS0.out])
          | fail)
        have hD1 := hD.keptN hk1
        have hc1 := hk1.cell hc0 (fun h => h)
        go_upto_region 4 with (first
          | (go_at_call 45; refine (read_any p D _ _ hD1).mono ?_; rintro e w2 ⟨rfl, hk2⟩; rw [HR1.out])
          | (go_at_call 46; refine (uread_any ⟨(D.at 1).toArray⟩ _ (size_mkA _ Hl1.out)).mono ?_; rintro e w3 ⟨v, rfl, hO, hk3⟩; rw [HE1.out]; rw [HL1.out] at hO)
          | fail)
        have hks := (hk1.then hk2).then hk3
        have hq1 := hks.cell hP.c1 (fun h => h)
        have hSl := hO.sl
        go_wp2_with (first
          | (go_at_call 47; refine (hasAll_any g n _ _ _ _ hq1 hSl (by omega)).mono ?_; rintro e w4 ⟨rfl, hk4⟩; rw [HALL.out])
          | fail)
        go_ret
        exact ⟨rfl, hD.keptN (hks.then hk4), (hks.then hk4).mono (fun _ _ h => h.elim)⟩
      | true =>
        have hB : D.back n = D.go (stW (imgD D (dirL (D.at 1)))) := by unfold Dv.back; rw [if_pos ⟨hsy, hde, hall⟩]
        have hE : D.backE n = D.goE (stW (imgD D (dirL (D.at 1)))) := by unfold Dv.backE; rw [if_pos hsy, if_pos ⟨hde, hall⟩]
        have hok := imgD_ok hD (by omega) hde hall
        rw [hB, hE]
        rw [hde] at HE1
        have HALL := hide hall
        obtain ⟨E, HE⟩ : ∃ E, Hid (D.goE (stW (imgD D (dirL (D.at 1)))) = E) := ⟨_, rfl⟩
        obtain ⟨F, HF⟩ : ∃ F, Hid (D.go (stW (imgD D (dirL (D.at 1)))) = F) := ⟨_, rfl⟩
        rw [HE.out, HF.out]
        have hm31 : (dirL (D.at 1)).length ≤ 31 := by rw [← imgD_len D]; exact hok.m
        clear hall hB hE hde hlen
        obtain ⟨L, HLL⟩ : ∃ L, Hid (dirL (D.at 1) = L) := ⟨_, rfl⟩
        rw [HLL.out] at HL1 HALL HE HF hok hm31
        go_enter Tryz.func24, Tryz.ntmps24
        go_upto_region 3 with (first
          | (go_at_call 45; refine (read_any p D _ _ hD).mono ?_; rintro e w1 ⟨rfl, hk1⟩; rw [HR0.out])
          | (go_at_call 44; refine (marked_any _ _).mono ?_; rintro e w' ⟨rfl, rfl⟩; rw [HS0.out])
          | fail)
        have hD1 := hD.keptN hk1
        have hc1 := hk1.cell hc0 (fun h => h)
        go_upto_region 4 with (first
          | (go_at_call 45; refine (read_any p D _ _ hD1).mono ?_; rintro e w2 ⟨rfl, hk2⟩; rw [HR1.out])
          | (go_at_call 46; refine (uread_any ⟨(D.at 1).toArray⟩ _ (size_mkA _ Hl1.out)).mono ?_; rintro e w3 ⟨v, rfl, hO, hk3⟩; rw [HE1.out]; rw [HL1.out] at hO)
          | fail)
        have hks := (hk1.then hk2).then hk3
        have hq1 := hks.cell hP.c1 (fun h => h)
        have hSl := hO.sl
        obtain ⟨a, cc, rfl, hcl⟩ := hO.open
        have HCL := hide hcl
        clear hcl hD1 hc1 hk1 hk2 hk3
        go_upto_region 6 with (first
          | (go_at_call 47; refine (hasAll_any g n _ _ _ _ hq1 hSl (by omega)).mono ?_; rintro e w4 ⟨rfl, hk4⟩; rw [HALL.out])
          | fail)
        obtain ⟨wa, hmk, hOC, hka⟩ := make_chgs w4 L.length (by omega)
        have hkw : Kp none' w wa := (hks.then hk4).then hka
        have hk3a : Kp none' w3 wa := hk4.then hka
        have hsz : w.heap.size ≤ w4.heap.size := (hks.then hk4).size
        obtain ⟨B, HB⟩ : ∃ B, Hid (w4.heap.size = B) := ⟨_, rfl⟩
        rw [HB.out] at hmk hOC hsz
        clear hka
        go_upto_region 7 with (at_make; refine wpList_make_at rfl (.tmp 33) (.tmp 33) 35 rfl _ _ rfl rfl hmk ?_)
        clear hmk
        go_wp2
        go_loopw [37] (fun t wr => ∃ k : Nat, k ≤ L.length ∧ t = .int .i64 k ∧ OwC 56 wr B (.slice (some ⟨B, 0, none⟩) L.length L.length) ((imgD D L).take k ++ List.replicate (L.length - k) chg0) ∧ Kp none' w wr ∧ Kp none' w3 wr) (fun t _ => L.length - (intOf t).toNat)
        case atStart => exact ⟨0, Nat.zero_le _, rfl, by simpa using hOC, hkw, hk3a⟩
        case round =>
          obtain ⟨k, hk, rfl, hOr, hKw, hK3⟩ := hrel
          clear hOC hkw hk3a
          by_cases hlt : k < L.length
          · have hki : (k : Int) < (L.length : Int) := by omega
            obtain ⟨b, rfl, hb, hc⟩ := HCL.out k hlt
            have d0 := hK3.cell hc (fun h => h)
            have hcr := hKw.cell hc0 (fun h => h)
            have hDr := hD.keptN hKw
            have HTK := hide (imgD_take D L k hlt)
            have HTL : Hid (((imgD D L).take k).length = k) := by show _ = _; rw [List.length_take, imgD_len]; omega
            obtain ⟨m, hm⟩ : ∃ m, L.length - k = m + 1 := ⟨L.length - k - 1, by omega⟩
            have Hm : Hid (L.length - (k + 1) = m) := by show _ = _; omega
            rw [hm] at hOr
            have hlk := look_image g k p D wr hcr hDr (by omega) (fun j hj => by unfold imageN; omega)
            obtain ⟨X, HX⟩ : ∃ X, Hid (lookS D (imageN k) = X) := ⟨_, rfl⟩
            rw [HX.out] at hlk HTK
            generalize L[k] = z at *
            have hkl : k < ((imgD D L).take k ++ List.replicate (m + 1) chg0).length := by rw [List.length_append, HTL.out, List.length_replicate]; omega
            clear hc
            go_upto_region 10 with fail
            go_upto_region 11 with (first
              | (go_at_call 42; refine hlk.mono ?_; rintro e w5 ⟨rfl, hk5⟩; have hO5 := hOr.keptN hk5; obtain ⟨x0, x1, y0, y1, y2, y3⟩ := hO5.facts k hkl (.int .i64 z))
              | fail)
            have hst := hO5.stored k hkl ⟨z, X⟩
            have e1 := set_nextC ((imgD D L).take k) m ⟨z, X⟩
            rw [HTL.out] at e1
            rw [e1, ← HTK.out] at hst
            have HST := hide hst
            have HKK := hide (Kp.ofGrown hst.2 (S := only B) (fun k he _ => by cases he; rfl))
            obtain ⟨w6, H6⟩ : ∃ w6, Hid ((w5.setCell ⟨B, k * 2, none⟩ (.int .i64 z)).setCell ⟨B, k * 2 + 1, none⟩ (.string X) = w6) := ⟨_, rfl⟩
            rw [H6.out]
            rw [show w5.setCells B (k * 2) (⟨z, X⟩ : Chg).cells = (w5.setCell ⟨B, k * 2, none⟩ (.int .i64 z)).setCell ⟨B, k * 2 + 1, none⟩ (.string X) from rfl] at HST HKK
            rw [H6.out] at HST HKK
            have hB3 : w3.heap.size ≤ B := by have := hk4.size; have := HB.out; omega
            clear hst e1 hO5 y0 y1 y2 y3
            go_wp2
            go_roundw
            case rel => exact ⟨k + 1, by omega, by go_num, by rw [Hm.out]; exact HST.out.1, (hKw.then hk5).trans HKK.out (fun _ _ h => h) (fun j hj he => absurd hj (by unfold only at he; omega)), (hK3.then hk5).trans HKK.out (fun _ _ h => h) (fun j hj he => absurd hj (by unfold only at he; omega))⟩
            case measure => simp [intOf]; omega
          · obtain rfl : k = L.length := by omega
            have hfull : (imgD D L).take L.length ++ List.replicate (L.length - L.length) chg0 = imgD D L := by rw [Nat.sub_self, List.take_of_length_le (by rw [imgD_len]; exact Nat.le_refl _)]; simp
            rw [hfull] at hOr
            have hDr := hD.keptN hKw
            have hCh : Chs (fun k => ¬ p.mem k) wr (.slice (some ⟨B, 0, none⟩) L.length L.length) (imgD D L) := hOr.chs.mono (fun j _ hj hm => by have := hD.lt j hm; omega)
            have hcs := psettle_any g n p D _ (imgD D L) wr (hKw.cell hc0 (fun h => h)) hgp hDr h0 h1 hn hn2 hCh hok
            rw [HE.out, HF.out] at hcs
            go_wp2_with (go_at_call 37; refine hcs.mono ?_; rintro e w5 ⟨rfl, hD5, hk5⟩)
            go_ret
            exact ⟨rfl, hD5, hKw.nThen hk5⟩
    · have hde10 : dirE (D.at 1) = 10 := (rE_bad (s := mkA (D.at 1)) hde).1
      have hB : D.back n = D := by unfold Dv.back; rw [if_neg (fun h => hde h.2.1)]
      have hE : D.backE n = 10 := by unfold Dv.backE; rw [if_pos hsy, if_neg (fun h => hde h.1)]
      rw [hB, hE]
      rw [hde10] at HE1
      clear hB hE hde hde10
      go_enter Tryz.func24, Tryz.ntmps24
      go_upto_region 3 with (first
        | (go_at_call 45; refine (read_any p D _ _ hD).mono ?_; rintro e w1 ⟨rfl, hk1⟩; rw [HR0.out])
        | (go_at_call 44; refine (marked_any _ _).mono ?_; rintro e w' ⟨rfl, rfl⟩; rw [HS0.out])
        | fail)
      have hD1 := hD.keptN hk1
      have hc1 := hk1.cell hc0 (fun h => h)
      go_upto_region 4 with (first
        | (go_at_call 45; refine (read_any p D _ _ hD1).mono ?_; rintro e w2 ⟨rfl, hk2⟩; rw [HR1.out])
        | (go_at_call 46; refine (uread_any ⟨(D.at 1).toArray⟩ _ (size_mkA _ Hl1.out)).mono ?_; rintro e w3 ⟨v, rfl, hO, hk3⟩; rw [HE1.out])
        | fail)
      have hks := (hk1.then hk2).then hk3
      go_wp2
      go_ret
      exact ⟨rfl, hD.keptN hks, hks.mono (fun _ _ h => h.elim)⟩

end Go.Proofs.YtgfijbbibafdfaaGreat
