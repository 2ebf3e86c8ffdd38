/- The walk of the law DeviceTorn. Conditions: those that the theorem states. -/
import Derived.Test.YtlalnaaeljikgaaDMathD
namespace Go.Proofs.Ytlalnaaeljikgaa.deviceTorn
open Go.RowKit
set_option linter.unusedVariables false

/-- What isn't the torn one is wholly the one or the other. -/
theorem torn_only {w : World} {p : Dp} {D : Dv} (hD : Dev w p D) (hs : D.s = fun _ => noughts) (l : List Bool) (torn cut : Int) (j : Nat) (hj : j < (unsL D).length) (h1 : rdL (D.crash l torn cut) ((unsL D)[j] : Int) ≠ rdL D ((unsL D)[j] : Int)) (h2 : rdL (D.crash l torn cut) ((unsL D)[j] : Int) ≠ whole []) : (j : Int) = torn := by
  have hlt := unsL_lt D _ (List.getElem_mem hj)
  obtain ⟨y, hy⟩ := unsL_some (List.getElem_mem hj : (unsL D)[j] ∈ unsL D)
  have hyl := (hD.l2 _ y hy).2
  have ha : D.at ((unsL D)[j]) = y := by simp [Dv.at, hy]
  rw [crash_read D l torn cut j hj, rdL_at D _ hlt, ha, hs] at h1
  rw [crash_read D l torn cut j hj, ha, hs] at h2
  have hw : whole [] = noughts := by kernel_rfl
  rw [hw] at h2
  apply Classical.byContradiction
  intro hne
  have hN : staysN j l torn cut = 64 ∨ staysN j l torn cut = 0 := by
    unfold staysN
    rw [if_neg hne]
    split
    · exact .inl rfl
    · exact .inr rfl
  rcases hN with hN | hN
  · exact h1 (by rw [hN, mixS_all noughts_len hyl])
  · exact h2 (by rw [hN, mixS_none])
set_option maxRecDepth 100000 in
set_option maxHeartbeats 1600000 in
theorem walk (v : Value) (l : List OpD) (o : OpD) (w : World) (hO : Ops w.heap.size w v l) (ho : o.ok w.heap.size w) : Calls Try.prog 6 #[v, .agg o.cells] w fun e w' => e = .returned (.bool true) ∧ w.grownBy w' none := by
  have hka := Kp.alloc none' w (.cells o.cells 34)
  have hb := new_row w o.cells 34
  obtain ⟨wa, Ha⟩ : ∃ wa, Hid (w.alloc (.cells o.cells 34) = wa) := ⟨_, rfl⟩
  rw [Ha.out] at hka hb
  have hgl : w.heap.size < wa.heap.size := (Array.getElem?_eq_some_iff.1 hb).1
  obtain ⟨g, HG⟩ : ∃ g, Hid (w.heap.size = g) := ⟨_, rfl⟩
  rw [HG.out] at hb hO ho hgl
  have c1 : wa.cell? ⟨g, 1, none⟩ = some (.int .i64 o.i) := by rw [cell_of_row _ _ _ _ _ _ hb]; rfl
  have c3 : wa.cell? ⟨g, 3, none⟩ = some o.kv := by rw [cell_of_row _ _ _ _ _ _ hb]; rfl
  have c4 : wa.cell? ⟨g, 4, none⟩ = some (.int .i64 o.c) := by rw [cell_of_row _ _ _ _ _ _ hb]; rfl
  clear hb
  go_enter Try.func6, Try.ntmps6
  go_upto_region 1 with fail
  rw [Ha.out, HG.out]
  go_upto_region 4 with (first
    | (go_at_call 9; refine (dlives_any _).mono ?_; rintro e wb ⟨rfl, hkb⟩; have hOb := (hO.kept hka (fun _ _ h => h)).kept hkb (fun _ _ h => h))
    | (go_at_call 10; refine (early_any g v l _ hOb).mono ?_; rintro e wb' ⟨v', rfl, rfl, hOe⟩)
    | fail)
  have hle : (l.take 300).length ≤ 300 := by rw [List.length_take]; omega
  obtain ⟨L, HL⟩ : ∃ L, Hid (l.take 300 = L) := ⟨_, rfl⟩
  rw [HL.out] at hOe hle
  obtain ⟨va, vc, rfl, hv1, hv2⟩ := hOe.shape
  unfold maxLen at hv2
  have hob : o.ok g wb' := (ho.kept hka (fun _ _ h => h)).kept hkb (fun _ _ h => h)
  have e1 := hkb.cell c1 (fun h => h)
  have e3 := hkb.cell c3 (fun h => h)
  have e4 := hkb.cell c4 (fun h => h)
  have hgb : g < wb'.heap.size := Nat.lt_of_lt_of_le hgl hkb.size
  have HKb : Hid (Kp none' w wb') := hka.then hkb
  clear c1 c3 c4 hka hkb hO hOb ho hgl
  go_upto_region 5 with (go_at_call 11; refine (new_any _ _).mono ?_; rintro e w1 ⟨p, rfl, hD1, hk1, hp1⟩)
  rw [show newN 8 = 8 from rfl] at hD1
  have hO1 := hOe.kept hk1 (fun _ _ h => h)
  clear hOe
  have hpg : ∀ k, p.mem k → g < k := fun k h => by have := hp1 k h; omega
  have F1 : ∀ W, Kp p.mem w1 W → W.cell? ⟨g, 1, none⟩ = some (.int .i64 o.i) ∧ W.cell? ⟨g, 3, none⟩ = some o.kv ∧ W.cell? ⟨g, 4, none⟩ = some (.int .i64 o.c) ∧ o.ok g W := fun W hW =>
    ⟨hW.cell (hk1.cell e1 (fun h => h)) (fun h => by have := hpg _ h; omega), hW.cell (hk1.cell e3 (fun h => h)) (fun h => by have := hpg _ h; omega), hW.cell (hk1.cell e4 (fun h => h)) (fun h => by have := hpg _ h; omega), (hob.kept hk1 (fun _ _ h => h)).kept hW (fun k hk h => by have := hpg k h; omega)⟩
  have HF1 : Hid (∀ W, Kp p.mem w1 W → W.cell? ⟨g, 1, none⟩ = some (.int .i64 o.i) ∧ W.cell? ⟨g, 3, none⟩ = some o.kv ∧ W.cell? ⟨g, 4, none⟩ = some (.int .i64 o.c) ∧ o.ok g W) := F1
  have HP1 : Hid (∀ k, p.mem k → wb'.heap.size ≤ k) := hp1
  have HPG : Hid (∀ k, p.mem k → g ≤ k) := fun k h => Nat.le_of_lt (hpg k h)
  have HKw : Hid (Kp none' w w1) := HKb.out.then hk1
  have HPW : Hid (∀ k, p.mem k → w.heap.size ≤ k) := fun k h => by rw [HG.out]; exact HPG.out k h
  have hg1 : g < w1.heap.size := Nat.lt_of_lt_of_le hgb hk1.size
  clear e1 e3 e4 hob F1 hk1 hp1 hpg
  go_upto_region 6 with fail
  go_loopw [6] (fun t wr => ∃ k : Nat, k ≤ L.length ∧ t = .int .i64 k ∧ Dev wr p ((fresh 8).writes (L.take k)) ∧ Kp p.mem w1 wr) (fun t _ => L.length - (intOf t).toNat)
  case atStart => exact ⟨0, Nat.zero_le _, rfl, hD1, Kp.refl _ _⟩
  case round =>
    obtain ⟨k, hk, rfl, hDr, hKr⟩ := hrel
    clear hD1
    by_cases hlt : k < L.length
    · have hOr := hO1.kept hKr (fun j hj h => by have := HPG.out j h; omega)
      obtain ⟨b, off, rfl, hb, hok, c0, c1, c2, c3, c4⟩ := hOr.at k hlt
      have hcc := writes_c (L.take k) (fresh 8)
      rw [show (fresh 8).c = 0 from rfl, List.length_take] at hcc
      have hki : (k : Int) < (L.length : Int) := by omega
      have HS : Hid ((fresh 8).writes (L.take (k + 1)) = wstep ((fresh 8).writes (L.take k)) L[k]) := writes_take _ L k hlt
      have HC : Hid (0 ≤ ((fresh 8).writes (L.take k)).c ∧ ((fresh 8).writes (L.take k)).c ≤ 1000000) := ⟨by omega, by omega⟩
      obtain ⟨D, Hd⟩ : ∃ D, Hid ((fresh 8).writes (L.take k) = D) := ⟨_, rfl⟩
      rw [Hd.out] at hDr HS HC
      obtain ⟨q, Ho⟩ : ∃ q, Hid (L[k]'hlt = q) := ⟨_, rfl⟩
      rw [Ho.out] at hok c0 c1 c2 c3 c4 HS
      clear hcc hO1 hOr
      by_cases h0 : q.kind = 0
      · have h0b : (q.kind == 0) = true := by simpa using h0
        have HW : Hid (wstep D q = D.step q) := by show _ = _; simp [wstep, h0]
        clear h0
        go_wp2_with (first
          | (go_at_call 26; refine (kind_any q _).mono ?_; rintro e wk ⟨rfl, hkk⟩; have d0 := hkk.cell c0 (fun h => h); have d1 := hkk.cell c1 (fun h => h); have d2 := hkk.cell c2 (fun h => h); have d3 := hkk.cell c3 (fun h => h); have d4 := hkk.cell c4 (fun h => h); clear c0 c1 c2 c3 c4)
          | (go_at_call 13; refine (does_any p D q g _ (hDr.keptN hkk) HC.out.1 HC.out.2 (hok.kept hkk (fun _ _ h => h)) HPG.out).mono ?_; rintro e w2 ⟨rfl, hD2, hk2⟩)
          | fail)
        go_roundw
        case rel => exact ⟨k + 1, by omega, by go_num, by rw [HS.out, HW.out]; exact hD2, (hKr.thenN hkk).then hk2⟩
        case measure => simp [intOf]; omega
      · have h0b : (q.kind == 0) = false := by simpa using h0
        have HW : Hid (wstep D q = D) := by show _ = _; simp [wstep, h0]
        clear h0
        go_wp2_with (first
          | (go_at_call 26; refine (kind_any q _).mono ?_; rintro e wk ⟨rfl, hkk⟩)
          | fail)
        go_roundw
        case rel => exact ⟨k + 1, by omega, by go_num, by rw [HS.out, HW.out]; exact hDr.keptN hkk, hKr.thenN hkk⟩
        case measure => simp [intOf]; omega
    · obtain rfl : k = L.length := by omega
      rw [List.take_length] at hDr
      have hsD : ((fresh 8).writes L).s = fun _ => noughts := by rw [writes_s]; rfl
      have hnD : ((fresh 8).writes L).n = 8 := by rw [writes_n]; rfl
      have hcD := writes_c L (fresh 8)
      rw [show (fresh 8).c = 0 from rfl] at hcD
      obtain ⟨D, Hd⟩ : ∃ D, Hid ((fresh 8).writes L = D) := ⟨_, rfl⟩
      rw [Hd.out] at hDr hsD hnD hcD
      clear hO1
      have HC : Hid (0 ≤ D.c ∧ D.c ≤ 1000000) := ⟨by omega, by omega⟩
      clear hcD
      have HsD : Hid (D.s = fun _ => noughts) := hsD
      have HnD : Hid (D.n = 8) := hnD
      clear hsD hnD
      go_upto_region 13 with (go_at_call 17; refine (unsure_any p D _ hDr).mono ?_; rintro e w2 ⟨v7, rfl, hO7, hk2⟩)
      have hD2 := hDr.keptN hk2
      have hK2 : Kp p.mem w1 w2 := hKr.thenN hk2
      obtain ⟨B2, HB2⟩ : ∃ B2, Hid (w2.heap.size = B2) := ⟨_, rfl⟩
      have HMl : Hid (∀ k, p.mem k → k < B2) := fun k h => by rw [← HB2.out]; exact hD2.lt k h
      have H7 : Hid (∀ k, v7.ownBlock = some k → k < B2 ∧ ¬ p.mem k) := fun k h => ⟨by rw [← HB2.out]; exact (hO7.lt k h).2, fun hm => by have := (hO7.lt k h).1; have := hDr.lt k hm; omega⟩
      obtain ⟨iS, hiS, hzS0, hzS1, hzS2⟩ := info_parts infoS
      clear hDr hKr hk2
      go_loopw [8, 9] (fun v8 t9 wr => ∃ k : Nat, k ≤ 8 ∧ t9 = .int .i64 k ∧ Ow strV 9 wr B2 v8 (reads D k) ∧ Kp none' w2 wr) (fun _ t _ => 8 - (intOf t).toNat)
      case atStart => exact ⟨0, Nat.zero_le _, rfl, Ow.nil _ _ _ _, Kp.refl _ _⟩
      case round =>
        obtain ⟨k, hk, rfl, hO8, hKr⟩ := hrel
        by_cases hlt8 : k < 8
        · have hDr := hD2.keptN hKr
          obtain ⟨X, HX⟩ : ∃ X : ByteArray, Hid (⟨(rdL D (k : Int)).toArray⟩ = X) := ⟨_, rfl⟩
          have HL8 := hide (reads_len D k)
          go_wp2_with (first
            | (go_at_call 19; refine (read_any p D _ _ hDr).mono ?_; rintro e w3 ⟨rfl, hk3⟩; rw [HX.out]; have hO9 := World.ownsRow.alloc (hO8.kept hk3 (fun _ _ h => h)) (.cells #[.string X] 9); have Hb : Hid (((reads D k).length + 1) * 16 ≤ 140737488355328 ∧ (reads D k).length + 1 ≤ maxLen ∧ B2 ≤ (w3.alloc (.cells #[.string X] 9)).heap.size) := ⟨by rw [HL8.out]; omega, by rw [HL8.out]; unfold maxLen; omega, by have := hKr.size; have := hk3.size; have := HB2.out; simp; omega⟩)
            | (at_builtin; refine wpList_append_row _ rfl (.tmp 42) (.tmp 46) 50 50 rfl B2 9 iS _ 1 16 Try.underlying50 hiS hzS0 rfl hzS1 hzS2 _ _ _ rfl hO9 _ 1 [.string X] rfl (src_cell _ 50 9 Try.underlying50 _ rfl _ rfl) (by omega) Hb.out.1 Hb.out.2.1 Hb.out.2.2 ?_; intro v4 w4 hO4 hg4 hv4)
            | fail)
          have hO5 : Ow strV 9 w4 B2 v4 (reads D (k + 1)) := by
            rw [reads_succ]
            refine Ow.snoc ?_
            rw [show strV (rdL D (k : Int)) = .string X from congrArg Value.string HX.out]
            exact hO4
          have hK5 : Kp none' w2 w4 := (hKr.then hk3).trans ((Kp.alloc (fun k => Value.ownBlock _ = some k) w3 _).then (Kp.ofGrown hg4 (fun k hk _ => hk))) (fun _ _ h => h) (fun j hj h => absurd hj (by have := (hO8.lt j h).1; have := HB2.out; omega))
          go_roundw
          case rel => exact ⟨k + 1, by omega, by go_num, hO5, hK5⟩
          case measure => simp [intOf]; omega
        · obtain rfl : k = 8 := by omega
          have hDr := hD2.keptN hKr
          have hK3 : Kp p.mem w1 wr := hK2.thenN hKr
          obtain ⟨e1, e3, e4, hok3⟩ := HF1.out wr hK3
          have hO7r := hO7.kept hKr (fun _ _ h => h)
          have HO7 : Hid (Ow (Value.int .i64) 3 wr _ v7 (unsI D)) := hO7r
          have HO8 : Hid (Ow strV 9 wr B2 _ (reads D 8)) := hO8
          clear hO7 hO7r hO8
          go_upto_region 19 with (go_at_call 24; refine (crash_any p D o.kv o.l o.i o.c g _ hDr HC.out.1 HC.out.2 hok3.2 HPG.out).mono ?_; rintro e w5 ⟨rfl, hD5, hk5⟩)
          clear e1 e3 e4
          have hO7 := HO7.out.kept hk5 (fun j hj h => (H7.out j hj).2 h)
          have hO8 := HO8.out.kept hk5 (fun j hj h => by have := (HO8.out.lt j hj).1; have := HMl.out j h; omega)
          obtain ⟨a7, c7, rfl, ha7⟩ := hO7.open
          obtain ⟨a8, c8, rfl, ha8⟩ := hO8.open
          have hK5 : Kp p.mem w1 w5 := hK3.then hk5
          have HTo : Hid (∀ j (hj : j < (unsL D).length), rdL (D.crash o.l o.i o.c) ((unsL D)[j] : Int) ≠ rdL D ((unsL D)[j] : Int) → rdL (D.crash o.l o.i o.c) ((unsL D)[j] : Int) ≠ whole [] → (j : Int) = o.i) := fun j hj => torn_only hDr HsD.out o.l o.i o.c j hj
          have hlI := unsI_len D
          have h8 : (unsL D).length ≤ 8 := by have := unsL_le D; have := HnD.out; omega
          rw [hlI]
          have hl8 := reads_len D 8
          rw [hl8]
          clear hDr hD2 hk5 hO7 hO8 hok3
          go_loopw [10, 11] (fun t10 t11 wr => ∃ j t : Nat, j ≤ (unsL D).length ∧ t ≤ 1 ∧ t10 = .int .i64 t ∧ t11 = .int .i64 j ∧ (t = 1 → o.i < j) ∧ Kp none' w5 wr) (fun _ t _ => (unsL D).length - (intOf t).toNat)
          case atStart => exact ⟨0, 0, Nat.zero_le _, Nat.zero_le _, rfl, rfl, (fun h => by cases h), Kp.refl _ _⟩
          case round =>
            obtain ⟨j, t, hj, ht, rfl, rfl, htj, hKq⟩ := hrel
            have hDq := hD5.keptN hKq
            by_cases hjl : j < (unsL D).length
            · obtain ⟨g7, rfl, _, hc7⟩ := ha7 j (by rw [hlI]; exact hjl)
              have eI : (unsI D)[j]'(by rw [hlI]; exact hjl) = ((unsL D)[j] : Int) := by simp [unsI]
              rw [eI] at hc7
              have HT := hide (HTo.out j hjl)
              have hi8 : (unsL D)[j] < 8 := by have := unsL_lt D _ (List.getElem_mem hjl); have := HnD.out; omega
              obtain ⟨i, Hi⟩ : ∃ i, Hid ((unsL D)[j]'hjl = i) := ⟨_, rfl⟩
              rw [Hi.out] at hc7 HT hi8
              obtain ⟨g8, rfl, _, hc8⟩ := ha8 i (by rw [hl8]; exact hi8)
              rw [reads_at D 8 i hi8] at hc8
              have d7 := hKq.cell hc7 (fun h => h)
              have d8 := hKq.cell hc8 (fun h => h)
              clear hc7 hc8 eI ha7 ha8
              unfold strV at d8
              obtain ⟨X, HX⟩ : ∃ X : ByteArray, Hid (⟨(rdL (D.crash o.l o.i o.c) (i : Int)).toArray⟩ = X) := ⟨_, rfl⟩
              obtain ⟨Y, HY⟩ : ∃ Y : ByteArray, Hid (⟨(rdL D (i : Int)).toArray⟩ = Y) := ⟨_, rfl⟩
              rw [HY.out] at d8
              go_upto_region 22 with (go_at_call 19; refine (read_any p (D.crash o.l o.i o.c) _ _ hDq).mono ?_; rintro e w6 ⟨rfl, hk6⟩; rw [HX.out]; have f7 := hk6.cell d7 (fun h => h); have f8 := hk6.cell d8 (fun h => h))
              clear d7 d8
              go_wp2_with (first
                | (go_at_call 22; refine (whole_any ⟨#[]⟩ _ (by show 0 ≤ maxLen; omega)).mono ?_; rintro e w7 ⟨rfl, hk7⟩)
                | fail)
              · go_roundw
                case rel => exact ⟨j + 1, t, by omega, ht, rfl, by go_num, (fun h => by have := htj h; omega), hKq.then hk6⟩
                case measure => simp [intOf]; omega
              · rename_i hd
                have hji : (j : Int) = o.i := by
                  have h1 := hd.1
                  have h2 := hd.2
                  rw [← HX.out, ← HY.out] at h1
                  rw [← HX.out] at h2
                  simp only [ByteArray.toList_mk, Bool.not_eq_true', beq_eq_false_iff_ne] at h1 h2
                  exact HT.out h1 h2
                have ht0 : t = 0 := by
                  rcases (by omega : t = 0 ∨ t = 1) with h | h
                  · exact h
                  · have := htj h; omega
                go_roundw
                case rel => exact ⟨j + 1, t + 1, by omega, by omega, by go_num, by go_num, (fun _ => by omega), (hKq.then hk6).then hk7⟩
                case measure => simp [intOf]; omega
              · go_roundw
                case rel => exact ⟨j + 1, t, by omega, ht, rfl, by go_num, (fun h => by have := htj h; omega), (hKq.then hk6).then hk7⟩
                case measure => simp [intOf]; omega
            · have ht1 : (t : Int) ≤ 1 := by omega
              go_wp2
              go_ret
              exact ⟨by simp, (HKw.out.trans (hK5.thenN hKq) (fun _ _ h => h) (fun k hk h => absurd hk (by have := HPW.out k h; omega))).grown⟩

end Go.Proofs.Ytlalnaaeljikgaa.deviceTorn
