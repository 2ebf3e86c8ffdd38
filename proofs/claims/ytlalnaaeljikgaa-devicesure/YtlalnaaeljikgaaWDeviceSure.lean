/- The walk of the law DeviceSure. Conditions: those that the theorem states. -/
import Derived.Test.YtlalnaaeljikgaaDMathD
namespace Go.Proofs.Ytlalnaaeljikgaa.deviceSure
open Go.RowKit
set_option linter.unusedVariables false

/-- A device that was made sure: nothing is unsure, and it doesn't stand still. -/
theorem sure_sync (D : Dv) : syE (D.crash [] (-1) 0) = 0 ∧ (D.crash [] (-1) 0).sync.s = (D.crash [] (-1) 0).s ∧ (D.crash [] (-1) 0).sync.u = (fun _ => none) ∧ (D.crash [] (-1) 0).sync.n = D.n ∧ (D.crash [] (-1) 0).sync.c = D.c + 1 ∧ (D.crash [] (-1) 0).c = D.c := ⟨rfl, rfl, rfl, rfl, rfl, rfl⟩
/-- What a sector's bytes are behind the crash. -/
theorem sure_bytes {w : World} {p : Dp} {D3 D4 : Dv} (hD : Dev w p D4) (hu : D3.u = fun _ => none) (hs : D4.s = D3.s) (hn : D4.n = 8) (hn3 : D3.n = 8) (l : List Bool) (torn cut : Int) (k : Nat) (hk : k < 8) :
    (rdL (D4.crash l torn cut) (k : Int)).length = 64 ∧ (rdL D3 (k : Int)).length = 64 ∧ (rdL D4 (k : Int)).length = 64 ∧ (k ∉ unsL D4 → rdL (D4.crash l torn cut) (k : Int) = rdL D3 (k : Int)) ∧
    ∀ i, i < 64 → (rdL (D4.crash l torn cut) (k : Int))[i]? = (rdL D3 (k : Int))[i]? ∨ (rdL (D4.crash l torn cut) (k : Int))[i]? = (rdL D4 (k : Int))[i]? := by
  have e3 : rdL D3 (k : Int) = D4.s k := by
    rw [rdL_at D3 k (by omega)]
    simp [Dv.at, hu, hs]
  have h4 := hD.l1 k (by omega)
  have ha : (D4.at k).length = 64 := by
    unfold Dv.at
    cases h : D4.u k with
    | none => exact h4
    | some y => exact (hD.l2 k y h).2
  rw [e3, rdL_at D4 k (by omega)]
  by_cases hm : k ∈ unsL D4
  · obtain ⟨j, hj, rfl⟩ := List.getElem_of_mem hm
    rw [crash_read D4 l torn cut j hj]
    have hN := staysN_le j l torn cut
    refine ⟨mixS_len _ h4 ha hN, h4, ha, fun h => absurd hm h, fun i hi => ?_⟩
    unfold mixS
    by_cases hc : i < staysN j l torn cut
    · right
      rw [List.getElem?_append_left (by rw [List.length_take]; omega), List.getElem?_take_of_lt hc]
    · left
      have hl : ((D4.at (unsL D4)[j]).take (staysN j l torn cut)).length = staysN j l torn cut := by rw [List.length_take]; omega
      rw [List.getElem?_append_right (by omega), hl, List.getElem?_drop]
      congr 1
      omega
  · rw [crash_sure D4 l torn cut k (by omega) hm]
    exact ⟨h4, h4, ha, fun _ => rfl, fun i _ => .inl rfl⟩
theorem uns_crash (D : Dv) (l : List Bool) (torn cut : Int) : unsI (D.crash l torn cut) = [] := by
  have : unsL (D.crash l torn cut) = [] := by
    unfold unsL
    exact List.filter_eq_nil_iff.2 (fun k _ => by simp [Dv.crash])
  simp [unsI, this]
set_option maxRecDepth 100000 in
set_option maxHeartbeats 3200000 in
theorem walk (v : Value) (l : List OpD) (v' : Value) (l' : List OpD) (o : OpD) (w : World) (hO : Ops w.heap.size w v l) (hO' : Ops w.heap.size w v' l') (ho : o.ok w.heap.size w) : Calls Try.prog 5 #[v, v', .agg o.cells] w fun e w' => e = .returned (.bool true) ∧ w.grownBy w' none := by
  have hka := Kp.alloc none' w (.cells o.cells 34)
  have hb := new_row w o.cells 34
  obtain ⟨wa, Ha⟩ : ∃ wa, Hid (w.alloc (.cells o.cells 34) = wa) := ⟨_, rfl⟩
  rw [Ha.out] at hka hb
  have hgl : w.heap.size < wa.heap.size := (Array.getElem?_eq_some_iff.1 hb).1
  obtain ⟨g, HG⟩ : ∃ g, Hid (w.heap.size = g) := ⟨_, rfl⟩
  rw [HG.out] at hb hO hO' ho hgl
  have c1 : wa.cell? ⟨g, 1, none⟩ = some (.int .i64 o.i) := by rw [cell_of_row _ _ _ _ _ _ hb]; rfl
  have c3 : wa.cell? ⟨g, 3, none⟩ = some o.kv := by rw [cell_of_row _ _ _ _ _ _ hb]; rfl
  have c4 : wa.cell? ⟨g, 4, none⟩ = some (.int .i64 o.c) := by rw [cell_of_row _ _ _ _ _ _ hb]; rfl
  clear hb
  obtain ⟨va0, vc0, rfl, hq1, hq2⟩ := hO.shape
  obtain ⟨vb0, vd0, rfl, hq3, hq4⟩ := hO'.shape
  go_enter Try.func5, Try.ntmps5
  go_upto_region 1 with fail
  rw [Ha.out, HG.out]
  go_upto_region 3 with (first
    | (go_at_call 9; refine (dlives_any _).mono ?_; rintro e wb ⟨rfl, hkb⟩)
    | fail)
  have hOb := (hO.kept hka (fun _ _ h => h)).kept hkb (fun _ _ h => h)
  have hOb' := (hO'.kept hka (fun _ _ h => h)).kept hkb (fun _ _ h => h)
  clear hO hO'
  go_upto_region 4 with (first
    | (go_at_call 10; refine (early_any g (.slice va0 l.length vc0) l _ hOb).mono ?_; rintro e wb1 ⟨v1, rfl, rfl, hOe⟩)
    | (go_at_call 10; refine (early_any g (.slice vb0 l'.length vd0) l' _ hOb').mono ?_; rintro e wb2 ⟨v2, rfl, rfl, hOe'⟩)
    | fail)
  have hle : (l.take 300).length ≤ 300 := by rw [List.length_take]; omega
  obtain ⟨L, HL⟩ : ∃ L, Hid (l.take 300 = L) := ⟨_, rfl⟩
  rw [HL.out] at hOe hle
  have hle' : (l'.take 300).length ≤ 300 := by rw [List.length_take]; omega
  obtain ⟨M, HM⟩ : ∃ M, Hid (l'.take 300 = M) := ⟨_, rfl⟩
  rw [HM.out] at hOe' hle'
  have hob : o.ok g wb2 := (ho.kept hka (fun _ _ h => h)).kept hkb (fun _ _ h => h)
  have e1 := hkb.cell c1 (fun h => h)
  have e3 := hkb.cell c3 (fun h => h)
  have e4 := hkb.cell c4 (fun h => h)
  have hgb : g < wb2.heap.size := Nat.lt_of_lt_of_le hgl hkb.size
  have HKb : Hid (Kp none' w wb2) := hka.then hkb
  clear c1 c3 c4 hka hkb hOb hOb' ho hgl hq1 hq2 hq3 hq4
  go_upto_region 5 with (go_at_call 23; refine (played_any 8 g v1 L _ hOe hle (Nat.le_of_lt hgb)).mono ?_; rintro e w1 ⟨p, rfl, hD1, hk1, hp1⟩)
  rw [show newN 8 = 8 from rfl] at hD1
  have hcc := plays_c L (fresh 8)
  rw [show (fresh 8).c = 0 from rfl] at hcc
  have hnn := plays_n L (fresh 8)
  rw [show (fresh 8).n = 8 from rfl] at hnn
  obtain ⟨D1, HD1⟩ : ∃ D1, Hid ((fresh 8).plays L = D1) := ⟨_, rfl⟩
  rw [HD1.out] at hD1 hcc hnn
  have hO1 := hOe'.kept hk1 (fun _ _ h => h)
  have hpg : ∀ k, p.mem k → g < k := fun k h => by have := hp1 k h; omega
  have HF1 : Hid (∀ W, Kp p.mem w1 W → W.cell? ⟨g, 1, none⟩ = some (.int .i64 o.i) ∧ W.cell? ⟨g, 3, none⟩ = some o.kv ∧ W.cell? ⟨g, 4, none⟩ = some (.int .i64 o.c) ∧ o.ok g W) := fun W hW =>
    ⟨hW.cell (hk1.cell e1 (fun h => h)) (fun h => by have := hpg _ h; omega), hW.cell (hk1.cell e3 (fun h => h)) (fun h => by have := hpg _ h; omega), hW.cell (hk1.cell e4 (fun h => h)) (fun h => by have := hpg _ h; omega), (hob.kept hk1 (fun _ _ h => h)).kept hW (fun k hk h => by have := hpg k h; omega)⟩
  have HPG : Hid (∀ k, p.mem k → g ≤ k) := fun k h => Nat.le_of_lt (hpg k h)
  have HKw : Hid (Kp none' w w1) := HKb.out.then hk1
  have HPW : Hid (∀ k, p.mem k → w.heap.size ≤ k) := fun k h => by rw [HG.out]; exact HPG.out k h
  clear e1 e3 e4 hob hk1 hp1 hpg hOe hOe'
  have HSS := hide (sure_sync D1)
  have HC1 : Hid (0 ≤ D1.c ∧ D1.c ≤ 1000) := ⟨by omega, by omega⟩
  have Hn1 : Hid (D1.n = 8) := hnn
  clear hcc hnn
  go_upto_region 10 with (first
    | (go_at_call 24; refine (crash_any p D1 _ [] (-1) 0 0 _ hD1 HC1.out.1 (by have := HC1.out.2; omega) (Sl.nil _ _ _) (fun _ _ => Nat.zero_le _)).mono ?_; rintro e w2 ⟨rfl, hD2, hk2⟩)
    | (go_at_call 25; refine (sync_any p (D1.crash [] (-1) 0) _ hD2 (by rw [HSS.out.2.2.2.2.2]; exact HC1.out.1) (by rw [HSS.out.2.2.2.2.2]; have := HC1.out.2; omega)).mono ?_; rintro e w3 ⟨rfl, hD3, hk3⟩; rw [HSS.out.1])
    | fail)
  have Hu3 : Hid ((D1.crash [] (-1) 0).sync.u = fun _ => none) := HSS.out.2.2.1
  have Hn3 : Hid ((D1.crash [] (-1) 0).sync.n = 8) := HSS.out.2.2.2.1.trans Hn1.out
  have HC3 : Hid (0 ≤ (D1.crash [] (-1) 0).sync.c ∧ (D1.crash [] (-1) 0).sync.c ≤ 2000) := by
    rw [HSS.out.2.2.2.2.1]
    have := HC1.out
    exact ⟨by omega, by omega⟩
  obtain ⟨D3, HD3⟩ : ∃ D3, Hid ((D1.crash [] (-1) 0).sync = D3) := ⟨_, rfl⟩
  rw [HD3.out] at hD3 Hu3 Hn3 HC3
  have HK3 : Hid (Kp p.mem w1 w3) := hk2.then hk3
  have hO3 := hO1.kept HK3.out (fun j hj h => by have := HPG.out j h; omega)
  clear hD1 hD2 hk2 hk3 HSS hO1
  obtain ⟨B3, HB3⟩ : ∃ B3, Hid (w3.heap.size = B3) := ⟨_, rfl⟩
  have HMl : Hid (∀ k, p.mem k → k < B3) := fun k h => by rw [← HB3.out]; exact hD3.lt k h
  obtain ⟨iS, hiS, hzS0, hzS1, hzS2⟩ := info_parts infoS
  obtain ⟨va, vc, rfl, hv1, hv2⟩ := hO3.shape
  unfold maxLen at hv2
  go_loopw [8, 10] (fun v8 t9 wr => ∃ k : Nat, k ≤ 8 ∧ t9 = .int .i64 k ∧ Ow strV 9 wr B3 v8 (reads D3 k) ∧ Kp none' w3 wr) (fun _ t _ => 8 - (intOf t).toNat)
  case atStart => exact ⟨0, Nat.zero_le _, rfl, Ow.nil _ _ _ _, Kp.refl _ _⟩
  case round =>
    obtain ⟨k, hk, rfl, hO8, hKq⟩ := hrel
    by_cases hlt8 : k < 8
    · have hDq := hD3.keptN hKq
      obtain ⟨X, HX⟩ : ∃ X : ByteArray, Hid (⟨(rdL D3 (k : Int)).toArray⟩ = X) := ⟨_, rfl⟩
      have HL8 := hide (reads_len D3 k)
      go_wp2_with (first
        | (go_at_call 19; refine (read_any p D3 _ _ hDq).mono ?_; rintro e w4 ⟨rfl, hk4⟩; rw [HX.out]; have hO9 := World.ownsRow.alloc (hO8.kept hk4 (fun _ _ h => h)) (.cells #[.string X] 9); have Hb : Hid (((reads D3 k).length + 1) * 16 ≤ 140737488355328 ∧ (reads D3 k).length + 1 ≤ maxLen ∧ B3 ≤ (w4.alloc (.cells #[.string X] 9)).heap.size) := ⟨by rw [HL8.out]; omega, by rw [HL8.out]; unfold maxLen; omega, by have := hKq.size; have := hk4.size; have := HB3.out; simp; omega⟩)
        | (at_builtin; refine wpList_append_row _ rfl (.tmp 36) (.tmp 40) 50 50 rfl B3 9 iS _ 1 16 Try.underlying50 hiS hzS0 rfl hzS1 hzS2 _ _ _ rfl hO9 _ 1 [.string X] rfl (src_cell _ 50 9 Try.underlying50 _ rfl _ rfl) (by omega) Hb.out.1 Hb.out.2.1 Hb.out.2.2 ?_; intro v5 w5 hO5 hg5 hv5)
        | fail)
      have hO6 : Ow strV 9 w5 B3 v5 (reads D3 (k + 1)) := by
        rw [reads_succ]
        refine Ow.snoc ?_
        rw [show strV (rdL D3 (k : Int)) = .string X from congrArg Value.string HX.out]
        exact hO5
      have hK6 : Kp none' w3 w5 := (hKq.then hk4).trans ((Kp.alloc (fun k => Value.ownBlock _ = some k) w4 _).then (Kp.ofGrown hg5 (fun k hk _ => hk))) (fun _ _ h => h) (fun i hi h => absurd hi (by have := (hO8.lt i h).1; have := HB3.out; omega))
      go_roundw
      case rel => exact ⟨k + 1, by omega, by go_num, hO6, hK6⟩
      case measure => simp [intOf]; omega
    · obtain rfl : k = 8 := by omega
      have HO8 : Hid (Ow strV 9 wr B3 u8 (reads D3 8)) := hO8
      have HK4 : Hid (Kp p.mem w1 wr) := HK3.out.thenN hKq
      have hD4 := hD3.keptN hKq
      have hO4 := hO3.kept hKq (fun _ _ h => h)
      clear hO8 hKq hD3 hO3
      rw [show (((8 : Nat) : Int)) = 8 from rfl]
      go_upto_region 14 with fail
      obtain ⟨w4, Hw4⟩ : ∃ w4, Hid (wr = w4) := ⟨_, rfl⟩
      rw [Hw4.out] at HO8 HK4 hD4 hO4 ⊢
      go_loopw [11] (fun t wq => ∃ k : Nat, k ≤ M.length ∧ t = .int .i64 k ∧ Dev wq p (D3.writes (M.take k)) ∧ Kp p.mem w4 wq) (fun t _ => M.length - (intOf t).toNat)
      case atStart => exact ⟨0, Nat.zero_le _, rfl, hD4, Kp.refl _ _⟩
      case round =>
        obtain ⟨k, hk, rfl, hDr, hKr⟩ := hrel
        clear hD4
        by_cases hlt : k < M.length
        · have hOr := hO4.kept hKr (fun j hj h => by have := HPG.out j h; omega)
          obtain ⟨b, off, rfl, hb, hok, c0, c1, c2, c3, c4⟩ := hOr.at k hlt
          have hcc := writes_c (M.take k) D3
          rw [List.length_take] at hcc
          have hki : (k : Int) < (M.length : Int) := by omega
          have HS : Hid (D3.writes (M.take (k + 1)) = wstep (D3.writes (M.take k)) M[k]) := writes_take _ M k hlt
          have HC : Hid (0 ≤ (D3.writes (M.take k)).c ∧ (D3.writes (M.take k)).c ≤ 1000000) := by have := HC3.out; exact ⟨by omega, by omega⟩
          obtain ⟨D, Hd⟩ : ∃ D, Hid (D3.writes (M.take k) = D) := ⟨_, rfl⟩
          rw [Hd.out] at hDr HS HC
          obtain ⟨q, Ho⟩ : ∃ q, Hid (M[k]'hlt = q) := ⟨_, rfl⟩
          rw [Ho.out] at hok c0 c1 c2 c3 c4 HS
          clear hcc hO4 hOr
          by_cases h0 : q.kind = 0
          · have h0b : (q.kind == 0) = true := by simpa using h0
            have HW : Hid (wstep D q = D.step q) := by show _ = _; simp [wstep, h0]
            clear h0
            go_wp2_with (first
              | (go_at_call 26; refine (kind_any q _).mono ?_; rintro e wk ⟨rfl, hkk⟩; have d0 := hkk.cell c0 (fun h => h); have d1 := hkk.cell c1 (fun h => h); have d2 := hkk.cell c2 (fun h => h); have d3 := hkk.cell c3 (fun h => h); have d4 := hkk.cell c4 (fun h => h); clear c0 c1 c2 c3 c4)
              | (go_at_call 13; refine (does_any p D q g _ (hDr.keptN hkk) HC.out.1 HC.out.2 (hok.kept hkk (fun _ _ h => h)) HPG.out).mono ?_; rintro e w6 ⟨rfl, hD6, hk6⟩)
              | fail)
            go_roundw
            case rel => exact ⟨k + 1, by omega, by go_num, by rw [HS.out, HW.out]; exact hD6, (hKr.thenN hkk).then hk6⟩
            case measure => simp [intOf]; omega
          · have h0b : (q.kind == 0) = false := by simpa using h0
            have HW : Hid (wstep D q = D) := by show _ = _; simp [wstep, h0]
            clear h0
            go_wp2_with (first
              | (go_at_call 26; refine (kind_any q _).mono ?_; rintro e wk ⟨rfl, hkk⟩)
              | fail)
            go_roundw
            case rel => exact ⟨k + 1, by omega, by go_num, by rw [HS.out, HW.out]; exact hDr.keptN hkk, hKr.thenN hkk⟩
            case measure => simp [intOf]; omega
        · obtain rfl : k = M.length := by omega
          rw [List.take_length] at hDr
          have hs4 : Hid ((D3.writes M).s = D3.s) := writes_s M D3
          have hn4 : Hid ((D3.writes M).n = 8) := (writes_n M D3).trans Hn3.out
          have hc4 : Hid (0 ≤ (D3.writes M).c ∧ (D3.writes M).c ≤ 1000000) := by have := writes_c M D3; have := HC3.out; exact ⟨by omega, by omega⟩
          obtain ⟨D4, HD4⟩ : ∃ D4, Hid (D3.writes M = D4) := ⟨_, rfl⟩
          rw [HD4.out] at hDr hs4 hn4 hc4
          clear hO4
          have HV8 : Hid (Ow strV 9 wr B3 u8 (reads D3 8)) := HO8.out.kept hKr (fun j hj h => by have := (HO8.out.lt j hj).1; have := HMl.out j h; omega)
          have HK5 : Hid (Kp p.mem w1 wr) := HK4.out.then hKr
          obtain ⟨w5, Hw5⟩ : ∃ w5, Hid (wr = w5) := ⟨_, rfl⟩
          rw [Hw5.out] at hDr HV8 HK5 ⊢
          obtain ⟨B5, HB5⟩ : ∃ B5, Hid (w5.heap.size = B5) := ⟨_, rfl⟩
          have HM5 : Hid (∀ k, p.mem k → k < B5) := fun k h => by rw [← HB5.out]; exact hDr.lt k h
          clear hKr
          go_upto_region 19 with fail
          go_loopw [9, 12] (fun v8 t9 wr => ∃ k : Nat, k ≤ 8 ∧ t9 = .int .i64 k ∧ Ow strV 9 wr B5 v8 (reads D4 k) ∧ Kp none' w5 wr) (fun _ t _ => 8 - (intOf t).toNat)
          case atStart => exact ⟨0, Nat.zero_le _, rfl, Ow.nil _ _ _ _, Kp.refl _ _⟩
          case round =>
            obtain ⟨k, hk, rfl, hO8, hKq⟩ := hrel
            by_cases hlt8 : k < 8
            · have hDq := hDr.keptN hKq
              obtain ⟨X, HX⟩ : ∃ X : ByteArray, Hid (⟨(rdL D4 (k : Int)).toArray⟩ = X) := ⟨_, rfl⟩
              have HL8 := hide (reads_len D4 k)
              go_wp2_with (first
                | (go_at_call 19; refine (read_any p D4 _ _ hDq).mono ?_; rintro e w6 ⟨rfl, hk6⟩; rw [HX.out]; have hO9 := World.ownsRow.alloc (hO8.kept hk6 (fun _ _ h => h)) (.cells #[.string X] 9); have Hb : Hid (((reads D4 k).length + 1) * 16 ≤ 140737488355328 ∧ (reads D4 k).length + 1 ≤ maxLen ∧ B5 ≤ (w6.alloc (.cells #[.string X] 9)).heap.size) := ⟨by rw [HL8.out]; omega, by rw [HL8.out]; unfold maxLen; omega, by have := hKq.size; have := hk6.size; have := HB5.out; simp; omega⟩)
                | (at_builtin; refine wpList_append_row _ rfl (.tmp 64) (.tmp 68) 50 50 rfl B5 9 iS _ 1 16 Try.underlying50 hiS hzS0 rfl hzS1 hzS2 _ _ _ rfl hO9 _ 1 [.string X] rfl (src_cell _ 50 9 Try.underlying50 _ rfl _ rfl) (by omega) Hb.out.1 Hb.out.2.1 Hb.out.2.2 ?_; intro v7 w7 hO7 hg7 hv7)
                | fail)
              have hO6 : Ow strV 9 w7 B5 v7 (reads D4 (k + 1)) := by
                rw [reads_succ]
                refine Ow.snoc ?_
                rw [show strV (rdL D4 (k : Int)) = .string X from congrArg Value.string HX.out]
                exact hO7
              have hK6 : Kp none' w5 w7 := (hKq.then hk6).trans ((Kp.alloc (fun k => Value.ownBlock _ = some k) w6 _).then (Kp.ofGrown hg7 (fun k hk _ => hk))) (fun _ _ h => h) (fun i hi h => absurd hi (by have := (hO8.lt i h).1; have := HB5.out; omega))
              go_roundw
              case rel => exact ⟨k + 1, by omega, by go_num, hO6, hK6⟩
              case measure => simp [intOf]; omega
            · obtain rfl : k = 8 := by omega
              rw [show (((8 : Nat) : Int)) = 8 from rfl]
              have HO9 : Hid (Ow strV 9 wr B5 u9 (reads D4 8)) := hO8
              have HV8r : Hid (Ow strV 9 wr B3 u8 (reads D3 8)) := HV8.out.kept hKq (fun _ _ h => h)
              have HK6 : Hid (Kp p.mem w1 wr) := HK5.out.thenN hKq
              have hD6 := hDr.keptN hKq
              clear hO8 hKq hDr
              go_upto_region 23 with (go_at_call 17; refine (unsure_any p D4 _ hD6).mono ?_; rintro e w6 ⟨v13, rfl, hO13, hk6⟩)
              have hK7 : Kp p.mem w1 w6 := HK6.out.thenN hk6
              obtain ⟨e1, e3, e4, hok3⟩ := HF1.out w6 hK7
              have hD7 := hD6.keptN hk6
              have HO13 : Hid (Ow (Value.int .i64) 3 w6 _ v13 (unsI D4)) := hO13
              have HM6 : Hid (∀ k, p.mem k → k < wr.heap.size) := fun k h => hD6.lt k h
              go_upto_region 25 with (go_at_call 24; refine (crash_any p D4 o.kv o.l o.i o.c g _ hD7 hc4.out.1 hc4.out.2 hok3.2 HPG.out).mono ?_; rintro e w8 ⟨rfl, hD8, hk8⟩)
              have hV8 := (HV8r.out.kept hk6 (fun _ _ h => h)).kept hk8 (fun j hj h => by have := (HV8r.out.lt j hj).1; have := HMl.out j h; omega)
              have hV9 := (HO9.out.kept hk6 (fun _ _ h => h)).kept hk8 (fun j hj h => by have := (HO9.out.lt j hj).1; have := HM5.out j h; omega)
              have hV13 := HO13.out.kept hk8 (fun j hj h => by have := (HO13.out.lt j hj).1; have := HM6.out j h; omega)
              obtain ⟨a8, c8, rfl, ha8⟩ := hV8.open
              obtain ⟨a9, c9, rfl, ha9⟩ := hV9.open
              obtain ⟨a13, c13, rfl, ha13⟩ := hV13.open
              have HSB : Hid (∀ k : Nat, k < 8 → (rdL (D4.crash o.l o.i o.c) (k : Int)).length = 64 ∧ (rdL D3 (k : Int)).length = 64 ∧ (rdL D4 (k : Int)).length = 64 ∧ (k ∉ unsL D4 → rdL (D4.crash o.l o.i o.c) (k : Int) = rdL D3 (k : Int)) ∧ ∀ i, i < 64 → (rdL (D4.crash o.l o.i o.c) (k : Int))[i]? = (rdL D3 (k : Int))[i]? ∨ (rdL (D4.crash o.l o.i o.c) (k : Int))[i]? = (rdL D4 (k : Int))[i]?) :=
                fun k hk => sure_bytes hD7 Hu3.out hs4.out hn4.out Hn3.out o.l o.i o.c k hk
              have HK8 : Hid (Kp p.mem w1 w8) := hK7.then hk8
              have HUC := hide (uns_crash D4 o.l o.i o.c)
              have hlI := unsI_len D4
              have hl3 := reads_len D3 8
              have hl4 := reads_len D4 8
              have HU8 : Hid ((unsL D4).length ≤ 8) := by have := unsL_le D4; have := hn4.out; show _ ≤ _; omega
              rw [hlI, hl3, hl4]
              clear hK7 hD6 hk6 hk8 hV8 hV9 hV13 hok3 e1 e3 e4 hO13 hD7
              go_loopw [14] (fun t wq => ∃ k : Nat, k ≤ 8 ∧ t = .int .i64 k ∧ Kp none' w8 wq) (fun t _ => 8 - (intOf t).toNat)
              case atStart => exact ⟨0, Nat.zero_le _, rfl, Kp.refl _ _⟩
              case round =>
                obtain ⟨k, hk, rfl, hKq⟩ := hrel
                have hDq := hD8.keptN hKq
                by_cases hk8 : k < 8
                · obtain ⟨g8, rfl, _, hc8⟩ := ha8 k (by rw [hl3]; exact hk8)
                  obtain ⟨g9, rfl, _, hc9⟩ := ha9 k (by rw [hl4]; exact hk8)
                  rw [reads_at D3 8 k hk8] at hc8
                  rw [reads_at D4 8 k hk8] at hc9
                  unfold strV at hc8 hc9
                  have d8 := hKq.cell hc8 (fun h => h)
                  have d9 := hKq.cell hc9 (fun h => h)
                  have hB := HSB.out k hk8
                  obtain ⟨X, HX⟩ : ∃ X : ByteArray, Hid (⟨(rdL (D4.crash o.l o.i o.c) (k : Int)).toArray⟩ = X) := ⟨_, rfl⟩
                  obtain ⟨Y, HY⟩ : ∃ Y : ByteArray, Hid (⟨(rdL D3 (k : Int)).toArray⟩ = Y) := ⟨_, rfl⟩
                  obtain ⟨Z, HZ⟩ : ∃ Z : ByteArray, Hid (⟨(rdL D4 (k : Int)).toArray⟩ = Z) := ⟨_, rfl⟩
                  rw [HY.out] at d8
                  rw [HZ.out] at d9
                  have hXs : X.size = 64 := by rw [← HX.out]; exact hB.1
                  have hYs : Y.size = 64 := by rw [← HY.out]; exact hB.2.1
                  have hZs : Z.size = 64 := by rw [← HZ.out]; exact hB.2.2.1
                  have HXY : Hid (k ∉ unsL D4 → X = Y) := fun h => by rw [← HX.out, ← HY.out, hB.2.2.2.1 h]
                  have HBY : Hid (∀ (i : Nat) (h1 : i < X.size) (h2 : i < Y.size) (h3 : i < Z.size), X[i] = Y[i] ∨ X[i] = Z[i]) := by
                    intro i h1 h2 h3
                    have hh := hB.2.2.2.2 i (by omega)
                    subst X Y Z
                    rw [List.getElem?_eq_getElem (by rw [hB.1]; omega), List.getElem?_eq_getElem (by rw [hB.2.1]; omega), List.getElem?_eq_getElem (by rw [hB.2.2.1]; omega)] at hh
                    rcases hh with hh | hh
                    · exact .inl (Option.some.inj hh)
                    · exact .inr (Option.some.inj hh)
                  clear hc8 hc9 ha8 ha9 hB
                  go_upto_region 30 with (go_at_call 19; refine (read_any p (D4.crash o.l o.i o.c) _ _ hDq).mono ?_; rintro e w9 ⟨rfl, hk9⟩; rw [HX.out]; have f8 := hk9.cell d8 (fun h => h); have f9 := hk9.cell d9 (fun h => h))
                  clear d8 d9
                  have hK9 := hKq.then hk9
                  clear hk9
                  go_loopw [16, 17] (fun t16 t17 wq => ∃ j : Nat, j ≤ (unsL D4).length ∧ t16 = .bool (decide (k ∈ (unsL D4).take j)) ∧ t17 = .int .i64 j ∧ wq = w9) (fun _ t _ => (unsL D4).length - (intOf t).toNat)
                  case atStart => exact ⟨0, Nat.zero_le _, by simp, rfl, rfl⟩
                  case round =>
                    obtain ⟨j, hj, rfl, rfl, rfl⟩ := hrel
                    by_cases hjl : j < (unsL D4).length
                    · obtain ⟨g13, rfl, _, hc13⟩ := ha13 j (by rw [hlI]; exact hjl)
                      have eI : (unsI D4)[j]'(by rw [hlI]; exact hjl) = ((unsL D4)[j] : Int) := by simp [unsI]
                      rw [eI] at hc13
                      have d13 := hK9.cell hc13 (fun h => h)
                      have HT : Hid (decide (k ∈ (unsL D4).take (j + 1)) = (decide (k ∈ (unsL D4).take j) || (((unsL D4)[j] : Int) == (k : Int)))) := by
                        show _ = _
                        rw [List.take_succ_eq_append_getElem hjl, Bool.eq_iff_iff]
                        simp only [decide_eq_true_eq, List.mem_append, List.mem_singleton, Bool.or_eq_true, beq_iff_eq]
                        constructor
                        · rintro (h | h)
                          · exact .inl h
                          · exact .inr (by omega)
                        · rintro (h | h)
                          · exact .inl h
                          · exact .inr (by omega)
                      obtain ⟨x, Hx⟩ : ∃ x, Hid ((unsL D4)[j]'hjl = x) := ⟨_, rfl⟩
                      rw [Hx.out] at d13 HT
                      have hjI : (j : Int) < ((unsL D4).length : Int) := by omega
                      have hj8 := HU8.out
                      clear hc13 eI f8 f9 ha13
                      obtain ⟨b, Hb⟩ : ∃ b, Hid (decide (k ∈ (unsL D4).take j) = b) := ⟨_, rfl⟩
                      rw [Hb.out] at HT ⊢
                      cases b
                      · go_wp2
                        go_roundw
                        case rel => exact ⟨j + 1, by omega, by rw [HT.out]; simp, by go_num, trivial⟩
                        case measure => simp [intOf]; omega
                      · go_wp2
                        go_roundw
                        case rel => exact ⟨j + 1, by omega, by rw [HT.out]; simp, by go_num, trivial⟩
                        case measure => simp [intOf]; omega
                    · obtain rfl : j = (unsL D4).length := by omega
                      rw [List.take_length]
                      obtain ⟨b, Hb⟩ : ∃ b, Hid (decide (k ∈ (unsL D4)) = b) := ⟨_, rfl⟩
                      have HXb : Hid (b = false → X = Y) := fun h => HXY.out (by have := Hb.out; rw [h] at this; simpa using this)
                      rw [Hb.out]
                      have hkI : (k : Int) < 8 := by omega
                      have hXI : (X.size : Int) = 64 := by omega
                      have HS2 : Hid (X.size = 64 ∧ Y.size = 64 ∧ Z.size = 64) := ⟨hXs, hYs, hZs⟩
                      clear hXs hYs hZs
                      cases b
                      case' false =>
                        have hXY := HXb.out rfl
                        have hXYb : (X.toList == Y.toList) = true := by rw [hXY]; exact beq_self_eq_true _
                        clear hXY
                        go_upto_region 36 with fail
                      case' true =>
                        go_upto_region 36 with fail
                      all_goals
                        clear ha13
                        go_loopw [18] (fun t wq => ∃ i : Nat, i ≤ 64 ∧ t = .int .i64 i ∧ Kp none' wr wq) (fun t _ => 64 - (intOf t).toNat)
                        case atStart => exact ⟨0, Nat.zero_le _, rfl, Kp.refl _ _⟩
                        case round =>
                          obtain ⟨i, hi, rfl, hK10⟩ := hrel
                          by_cases hi64 : i < 64
                          · have hiI : (i : Int) < 64 := by omega
                            have hi1 : i < X.size := by have := HS2.out; omega
                            have hi2 : i < Y.size := by have := HS2.out; omega
                            have hi3 : i < Z.size := by have := HS2.out; omega
                            have h8 := hK10.cell f8 (fun h => h)
                            have h9 := hK10.cell f9 (fun h => h)
                            have HBi := hide (HBY.out i hi1 hi2 hi3)
                            clear f8 f9 hDq hD8
                            have hi1' : (i : Int) < (X.size : Int) := by omega
                            have hi2' : (i : Int) < (Y.size : Int) := by omega
                            have hi3' : (i : Int) < (Z.size : Int) := by omega
                            by_cases hc : X[i] = Y[i]
                            · have hc' : ((X[i].toNat : Int) != (Y[i].toNat : Int)) = false := by simp [hc]
                              clear hc
                              go_upto_region 38 with fail
                              go_quiet (fail)
                              go_wp2
                              go_roundw
                              case rel => exact ⟨i + 1, by omega, by go_num, hK10.then (Kp.drewN _ _ _)⟩
                              case measure => simp [intOf]; omega
                            · have hc' : ((X[i].toNat : Int) != (Y[i].toNat : Int)) = true := by
                                rw [bne_iff_ne]
                                intro h
                                exact hc (UInt8.toNat_inj.1 (by omega))
                              have hd : X[i] = Z[i] := HBi.out.resolve_left hc
                              have hd' : ((X[i].toNat : Int) != (Z[i].toNat : Int)) = false := by simp [hd]
                              clear hc hd
                              go_upto_region 38 with fail
                              go_quiet (fail)
                              go_wp2
                              go_roundw
                              case rel => exact ⟨i + 1, by omega, by go_num, hK10.then (Kp.drewN _ _ _)⟩
                              case measure => simp [intOf]; omega
                          · obtain rfl : i = 64 := by omega
                            go_wp2
                            go_roundw
                            case rel => exact ⟨k + 1, by omega, by go_num, hK9.then hK10⟩
                            case measure => simp [intOf]; omega
                · go_wp2_with (go_at_call 17; refine (unsure_any p (D4.crash o.l o.i o.c) _ hDq).mono ?_; rintro e w9 ⟨v, rfl, hO9, hk9⟩; obtain ⟨vx, vy, rfl, _⟩ := hO9.open; rw [HUC.out]; rw [List.length_nil])
                  go_ret
                  exact ⟨rfl, (HKw.out.trans ((HK8.out.thenN hKq).thenN hk9) (fun _ _ h => h) (fun k hk h => absurd hk (by have := HPW.out k h; omega))).grown⟩

end Go.Proofs.Ytlalnaaeljikgaa.deviceSure
