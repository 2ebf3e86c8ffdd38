/- The walk of the law DeviceStops. Conditions: those that the theorem states. -/
import Derived.Test.YtlalnaaeljikgaaDMathD
namespace Go.Proofs.Ytlalnaaeljikgaa.deviceStops
open Go.RowKit
set_option linter.unusedVariables false

theorem Ow.mono {α : Type} {f : α → Value} {e : TypeId} {w : World} {base base' : Nat} {v : Value} {l : List α} (h : Ow f e w base v l) (hb : base' ≤ base) : Ow f e w base' v l := by
  refine ⟨h.1, ?_⟩
  rcases h.2 with hn | ⟨g, cap, cur, rfl, hb2, rest⟩
  · exact .inl hn
  · exact .inr ⟨g, cap, cur, rfl, by omega, rest⟩
theorem still_step {D : Dv} {o : OpD} (hk : o.kind = 0 ∨ o.kind = 1) (h : stillB D = true) : D.stepE o = 9 ∧ D.step o = D.called := by
  rcases hk with hk | hk
  · have e : wrE D o.i o.s = 9 := by simp [wrE, h]
    simp [Dv.stepE, Dv.step, hk, e, Dv.write]
  · simp [Dv.stepE, Dv.step, hk, syE, Dv.sync, h]
theorem live_step {D : Dv} {o : OpD} (hk : o.kind = 0 ∨ o.kind = 1) (h : stillB D = false) : (D.stepE o == 9) = false := by
  rcases hk with hk | hk
  · have e : D.stepE o = wrE D o.i o.s := by simp [Dv.stepE, hk]
    rw [e]
    unfold wrE
    rw [h]
    simp only [Bool.false_eq_true, if_false]
    split
    · split <;> rfl
    · rfl
  · simp [Dv.stepE, hk, syE, h]
theorem step_same {D : Dv} {o : OpD} (hk : o.kind = 0 ∨ o.kind = 1) : (D.step o).st = D.st ∧ (D.step o).f = D.f ∧ (D.step o).c = D.c + 1 := by
  rcases hk with hk | hk
  · have e : D.step o = D.write o.i o.s := by simp [Dv.step, hk]
    rw [e]
    unfold Dv.write
    split <;> exact ⟨rfl, rfl, rfl⟩
  · have e : D.step o = D.sync := by simp [Dv.step, hk]
    rw [e]
    unfold Dv.sync
    split <;> exact ⟨rfl, rfl, rfl⟩
def xB : ByteArray := ⟨#[120]⟩
/-- Behind a crash it goes on. -/
theorem goes_on (D : Dv) (hn : D.n = 8) : wrE (D.crash [] (-1) 0) 0 xB = 0 ∧ syE ((D.crash [] (-1) 0).write 0 xB) = 0 ∧ rdL ((D.crash [] (-1) 0).write 0 xB).sync 0 = whole xB.data.toList := by
  have h1 : stillB (D.crash [] (-1) 0) = false := rfl
  have h2 : hasB (D.crash [] (-1) 0).n 0 = true := by
    show hasB D.n 0 = true
    rw [hn]
    rfl
  have h3 : xB.size ≤ 64 := by decide
  have h4 : wrE (D.crash [] (-1) 0) 0 xB = 0 := by simp [wrE, h1, h2, h3]
  have h5 : (D.crash [] (-1) 0).write 0 xB = { (D.crash [] (-1) 0).called with u := put (D.crash [] (-1) 0).u (0 : Int).toNat (whole xB.data.toList) } := by simp [Dv.write, h4]
  have h6 : stillB ((D.crash [] (-1) 0).write 0 xB) = false := by rw [h5]; rfl
  have h7 : syE ((D.crash [] (-1) 0).write 0 xB) = 0 := by simp [syE, h6]
  refine ⟨h4, h7, ?_⟩
  have h8 : ((D.crash [] (-1) 0).write 0 xB).sync = { ((D.crash [] (-1) 0).write 0 xB).called with s := ((D.crash [] (-1) 0).write 0 xB).at, u := fun _ => none } := by simp [Dv.sync, h6]
  rw [h8]
  have h9 : hasB ((D.crash [] (-1) 0).write 0 xB).called.n 0 = true := by rw [h5]; exact h2
  unfold rdL
  rw [show ({ ((D.crash [] (-1) 0).write 0 xB).called with s := ((D.crash [] (-1) 0).write 0 xB).at, u := fun _ => none } : Dv).n = ((D.crash [] (-1) 0).write 0 xB).called.n from rfl, h9, if_pos rfl]
  show ((D.crash [] (-1) 0).write 0 xB).at 0 = _
  rw [h5]
  rfl
theorem gone_c (D : Dv) : (D.crash [] (-1) 0).c = D.c ∧ ((D.crash [] (-1) 0).write 0 xB).c = D.c + 1 := ⟨rfl, by rw [write_c]; rfl⟩
/-- The device that is to stand still. -/
def stp (N : Nat) : Dv := { n := 8, s := fun _ => noughts, u := fun _ => none, c := 0, st := true, f := (N : Int) }
/-- What holds ahead of each step: what was read last is what is read now. -/
def StR (p : Dp) (N B2 : Nat) (wr : World) (v6 : Value) (k : Nat) (D : Dv) : Prop :=
  Dev wr p D ∧ D.st = true ∧ D.f = (N : Int) ∧ 0 ≤ D.c ∧ D.c ≤ k ∧ D.n = 8 ∧ (v6 = .slice none 0 0 ∨ Ow strV 9 wr B2 v6 (reads D 8))
theorem StR.keptN {p : Dp} {N B2 : Nat} {wr w' : World} {v6 : Value} {k : Nat} {D : Dv} (h : StR p N B2 wr v6 k D) (hk : Kp none' wr w') : StR p N B2 w' v6 k D := by
  obtain ⟨h1, h2, h3, h4, h5, h6, h7⟩ := h
  exact ⟨h1.keptN hk, h2, h3, h4, h5, h6, h7.imp id (fun h => h.kept hk (fun _ _ h => h))⟩
set_option maxRecDepth 100000 in
set_option maxHeartbeats 3200000 in
theorem walk (v : Value) (l : List OpD) (n : Int) (w : World) (hO : Ops w.heap.size w v l) : Calls Try.prog 7 #[v, .int .i64 n] w fun e w' => e = .returned (.bool true) ∧ w.grownBy w' none := by
  obtain ⟨N, hN, hN50⟩ : ∃ N : Nat, wrap64 ((IntKind.u64.wrap n).tmod 50) = (N : Int) ∧ N < 50 := by
    have e : IntKind.u64.wrap n = n % 18446744073709551616 := by rfl
    refine ⟨((n % 18446744073709551616) % 50).toNat, ?_, by omega⟩
    rw [e, Int.tmod_eq_emod_of_nonneg (by omega)]
    unfold wrap64
    omega
  obtain ⟨g, HG⟩ : ∃ g, Hid (w.heap.size = g) := ⟨_, rfl⟩
  rw [HG.out] at hO
  go_enter Try.func7, Try.ntmps7
  go_upto_region 4 with (first
    | (go_at_call 9; refine (dlives_any _).mono ?_; rintro e wb ⟨rfl, hkb⟩; have hOb := hO.kept hkb (fun _ _ h => h))
    | (go_at_call 10; refine (early_any g v l _ hOb).mono ?_; rintro e wb' ⟨v', rfl, rfl, hOe⟩)
    | fail)
  have hle : (l.take 300).length ≤ 300 := by rw [List.length_take]; omega
  obtain ⟨L, HL⟩ : ∃ L, Hid (l.take 300 = L) := ⟨_, rfl⟩
  rw [HL.out] at hOe hle
  obtain ⟨va, vc, rfl, hv1, hv2⟩ := hOe.shape
  unfold maxLen at hv2
  clear hO hOb
  go_upto_region 5 with (go_at_call 11; refine (new_any _ _).mono ?_; rintro e w1 ⟨p, rfl, hD1, hk1, hp1⟩)
  rw [show newN 8 = 8 from rfl] at hD1
  have hO1 := hOe.kept hk1 (fun _ _ h => h)
  have HPG : Hid (∀ k, p.mem k → g ≤ k) := fun k h => by have := hp1 k h; have := hkb.size; have := HG.out; omega
  have HKw : Hid (Kp none' w w1) := hkb.then hk1
  clear hOe hk1 hkb hp1
  go_upto_region 6 with fail
  rw [hN]
  clear hN
  go_upto_region 9 with (go_at_call 27; refine (stop_any p (fresh 8) N _ hD1 (by show (0 : Int) ≤ 0; omega) (by show (0 : Int) ≤ 1000000; omega)).mono ?_; rintro e w2 ⟨rfl, hD2, hk2⟩)
  have e2 : (fresh 8).stop N = stp N := by
    unfold Dv.stop
    rw [if_pos ⟨by omega, by omega⟩]
    unfold stp fresh
    simp
  rw [e2] at hD2
  clear e2 hD1
  have hO2 := hO1.kept hk2 (fun j hj h => by have := HPG.out j h; omega)
  clear hO1
  obtain ⟨B2, HB2⟩ : ∃ B2, Hid (w2.heap.size = B2) := ⟨_, rfl⟩
  have HMl : Hid (∀ k, p.mem k → k < B2) := fun k h => by rw [← HB2.out]; exact hD2.lt k h
  have HK2 : Hid (Kp p.mem w1 w2) := hk2
  clear hk2
  obtain ⟨iS, hiS, hzS0, hzS1, hzS2⟩ := info_parts infoS
  go_loopw [6, 7] (fun v6 t7 wr => ∃ (k : Nat) (D : Dv), k ≤ L.length ∧ t7 = .int .i64 k ∧ StR p N B2 wr v6 k D ∧ Kp p.mem w2 wr) (fun _ t _ => L.length - (intOf t).toNat)
  case atStart => exact ⟨0, stp N, Nat.zero_le _, rfl, ⟨hD2, rfl, rfl, Int.le_refl _, Int.le_refl _, rfl, .inl rfl⟩, Kp.refl _ _⟩
  case round =>
    obtain ⟨k, D, hk, rfl, ⟨hDr, hst, hf, hc0, hck, hn8, hlast⟩, hKr⟩ := hrel
    clear hD2
    by_cases hlt : k < L.length
    · have hOr := hO2.kept hKr (fun j hj h => by have := HPG.out j h; omega)
      obtain ⟨b, off, rfl, hb, hok, c0, c1, c2, c3, c4⟩ := hOr.at k hlt
      have hki : (k : Int) < (L.length : Int) := by omega
      obtain ⟨q, Ho⟩ : ∃ q, Hid (L[k]'hlt = q) := ⟨_, rfl⟩
      rw [Ho.out] at hok c0 c1 c2 c3 c4
      clear hO2 hOr
      have HC : Hid (0 ≤ D.c ∧ D.c ≤ 1000000) := ⟨hc0, by omega⟩
      have HQ : Hid (D.st = true ∧ D.f = (N : Int) ∧ 0 ≤ D.c ∧ D.c ≤ k ∧ D.n = 8) := ⟨hst, hf, hc0, hck, hn8⟩
      by_cases h1 : 1 < q.kind
      · have h1b : decide (1 < q.kind) = true := by simpa using h1
        go_wp2_with (first
          | (go_at_call 26; refine (kind_any q _).mono ?_; rintro e wk ⟨rfl, hkk⟩)
          | fail)
        go_roundw
        case rel => exact ⟨k + 1, D, by omega, by go_num, ⟨hDr.keptN hkk, hst, hf, hc0, by omega, hn8, hlast.imp id (fun h => h.kept hkk (fun _ _ h => h))⟩, hKr.thenN hkk⟩
        case measure => simp [intOf]; omega
      · have hq : q.kind = 0 ∨ q.kind = 1 := by have := q.kinds; omega
        have h1b : decide (1 < q.kind) = false := by simpa using h1
        have hstp := step_same (D := D) hq
        have hHN : (stillB D = true ↔ (N : Int) ≤ D.c) := by simp [stillB, hst, hf]
        clear hst hf hc0 hck hn8
        go_upto_region 13 with (first
          | (go_at_call 26; refine (kind_any q _).mono ?_; rintro e wk ⟨rfl, hkk⟩; have d0 := hkk.cell c0 (fun h => h); have d1 := hkk.cell c1 (fun h => h); have d2 := hkk.cell c2 (fun h => h); have d3 := hkk.cell c3 (fun h => h); have d4 := hkk.cell c4 (fun h => h); clear c0 c1 c2 c3 c4)
          | (go_at_call 13; refine (does_any p D q g _ (hDr.keptN hkk) HC.out.1 HC.out.2 (hok.kept hkk (fun _ _ h => h)) HPG.out).mono ?_; rintro e w3 ⟨rfl, hD3, hk3⟩)
          | fail)
        have hK3 : Kp p.mem w2 w3 := (hKr.thenN hkk).then hk3
        have hl3 : u6 = .slice none 0 0 ∨ Ow strV 9 w3 B2 u6 (reads D 8) := hlast.imp id (fun ho => (ho.kept hkk (fun _ _ h => h)).kept hk3 (fun j hj hm => by have := (ho.lt j hj).1; have := HMl.out j hm; omega))
        obtain ⟨b, Hb⟩ : ∃ b, Hid (stillB D = b) := ⟨_, rfl⟩
        have hE : (D.stepE q == 9) = b := by
          rw [← Hb.out]
          cases h : stillB D with
          | true => rw [(still_step hq h).1]; rfl
          | false => exact live_step hq h
        have HSt : Hid (b = true → reads (D.step q) 8 = reads D 8) := fun h => by rw [(still_step hq (Hb.out.trans h)).2]; rfl
        have hcn : decide ((N : Int) < (D.step q).c) = b := by
          rw [← Hb.out, hstp.2.2]
          cases h : stillB D with
          | true => have := hHN.1 h; simp; omega
          | false =>
            have : ¬ (N : Int) ≤ D.c := fun h' => by rw [hHN.2 h'] at h; cases h
            simp
            omega
        have HQ3 : Hid ((D.step q).st = true ∧ (D.step q).f = (N : Int) ∧ 0 ≤ (D.step q).c ∧ (D.step q).c ≤ ((k + 1 : Nat) : Int) ∧ (D.step q).n = 8) := by
          have h := HQ.out
          refine ⟨hstp.1.trans h.1, hstp.2.1.trans h.2.1, ?_, ?_, (step_n D q).trans h.2.2.2.2⟩
          · rw [hstp.2.2]; omega
          · rw [hstp.2.2]; omega
        obtain ⟨D3, HD3⟩ : ∃ D3, Hid (D.step q = D3) := ⟨_, rfl⟩
        rw [HD3.out] at hD3 HSt hcn HQ3
        obtain ⟨E, HE⟩ : ∃ E, Hid (D.stepE q = E) := ⟨_, rfl⟩
        rw [HE.out] at hE ⊢
        obtain ⟨C, HCc⟩ : ∃ C, Hid (D3.c = C) := ⟨_, rfl⟩
        rw [HCc.out] at hcn
        clear hstp hHN hDr hk3 hKr hkk hlast hok hq h1 h1b d0 d1 d2 d3 d4
        go_upto_region 17 with (first
          | (go_at_call 15; refine (calls_any p D3 _ hD3).mono ?_; rintro e wc ⟨rfl, rfl⟩; rw [HCc.out])
          | fail)
        obtain ⟨B3, HB3⟩ : ∃ B3, Hid (wc.heap.size = B3) := ⟨_, rfl⟩
        have HK3 : Hid (Kp p.mem w2 wc) := hK3
        have HL3 : Hid (u6 = .slice none 0 0 ∨ Ow strV 9 wc B2 u6 (reads D 8)) := hl3
        clear hK3 hl3
        go_loopw [9, 10] (fun v9 t10 wr => ∃ j : Nat, j ≤ 8 ∧ t10 = .int .i64 j ∧ Ow strV 9 wr B3 v9 (reads D3 j) ∧ Kp none' wc wr) (fun _ t _ => 8 - (intOf t).toNat)
        case atStart => exact ⟨0, Nat.zero_le _, rfl, Ow.nil _ _ _ _, Kp.refl _ _⟩
        case round =>
          obtain ⟨j, hj, rfl, hO8, hKq⟩ := hrel
          by_cases hlt8 : j < 8
          · have hDq := hD3.keptN hKq
            obtain ⟨X, HX⟩ : ∃ X : ByteArray, Hid (⟨(rdL D3 (j : Int)).toArray⟩ = X) := ⟨_, rfl⟩
            have HL8 := hide (reads_len D3 j)
            go_wp2_with (first
              | (go_at_call 19; refine (read_any p D3 _ _ hDq).mono ?_; rintro e w4 ⟨rfl, hk4⟩; rw [HX.out]; have hO9 := World.ownsRow.alloc (hO8.kept hk4 (fun _ _ h => h)) (.cells #[.string X] 9); have Hb : Hid (((reads D3 j).length + 1) * 16 ≤ 140737488355328 ∧ (reads D3 j).length + 1 ≤ maxLen ∧ B3 ≤ (w4.alloc (.cells #[.string X] 9)).heap.size) := ⟨by rw [HL8.out]; omega, by rw [HL8.out]; unfold maxLen; omega, by have := hKq.size; have := hk4.size; have := HB3.out; simp; omega⟩)
              | (at_builtin; refine wpList_append_row _ rfl (.tmp 53) (.tmp 57) 50 50 rfl B3 9 iS _ 1 16 Try.underlying50 hiS hzS0 rfl hzS1 hzS2 _ _ _ rfl hO9 _ 1 [.string X] rfl (src_cell _ 50 9 Try.underlying50 _ rfl _ rfl) (by omega) Hb.out.1 Hb.out.2.1 Hb.out.2.2 ?_; intro v5 w5 hO5 hg5 hv5)
              | fail)
            have hO6 : Ow strV 9 w5 B3 v5 (reads D3 (j + 1)) := by
              rw [reads_succ]
              refine Ow.snoc ?_
              rw [show strV (rdL D3 (j : Int)) = .string X from congrArg Value.string HX.out]
              exact hO5
            have hK6 : Kp none' wc w5 := (hKq.then hk4).trans ((Kp.alloc (fun k => Value.ownBlock _ = some k) w4 _).then (Kp.ofGrown hg5 (fun k hk _ => hk))) (fun _ _ h => h) (fun i hi h => absurd hi (by have := (hO8.lt i h).1; have := HB3.out; omega))
            go_roundw
            case rel => exact ⟨j + 1, by omega, by go_num, hO6, hK6⟩
            case measure => simp [intOf]; omega
          · obtain rfl : j = 8 := by omega
            have HR : Hid (StR p N B2 wr u9 (k + 1) D3) := ⟨hD3.keptN hKq, HQ3.out.1, HQ3.out.2.1, HQ3.out.2.2.1, HQ3.out.2.2.2.1, HQ3.out.2.2.2.2, .inr (Ow.mono hO8 (by rw [← HB2.out, ← HB3.out]; exact HK3.out.size))⟩
            have HKr : Hid (Kp p.mem w2 wr) := HK3.out.thenN hKq
            have HLr : Hid (u6 = .slice none 0 0 ∨ Ow strV 9 wr B2 u6 (reads D 8)) := HL3.out.imp id (fun h => h.kept hKq (fun _ _ h => h))
            have HO8 : Hid (Ow strV 9 wr B3 u9 (reads D3 8)) := hO8
            have hl8 := reads_len D3 8
            have hl9 := reads_len D 8
            clear hO8 hD3 hKq hcn
            go_upto_region 21 with fail
            cases b with
            | false =>
              go_loop [11] (fun t => ∃ m : Nat, m ≤ 8 ∧ t = .int .i64 m) (fun t => 8 - (intOf t).toNat)
              case atStart => exact ⟨0, Nat.zero_le _, rfl⟩
              case round =>
                obtain ⟨m, hm, rfl⟩ := hrel
                by_cases hm8 : m < 8
                all_goals
                  go_wp2
                  go_roundw
                  case rel => exact ⟨k + 1, D3, by omega, by go_num, HR.out, HKr.out⟩
                  case measure => simp [intOf]; omega
            | true =>
              rcases HLr.out with h0 | hO6
              · subst h0
                go_loop [11] (fun t => ∃ m : Nat, m ≤ 8 ∧ t = .int .i64 m) (fun t => 8 - (intOf t).toNat)
                case atStart => exact ⟨0, Nat.zero_le _, rfl⟩
                case round =>
                  obtain ⟨m, hm, rfl⟩ := hrel
                  by_cases hm8 : m < 8
                  all_goals
                    go_wp2
                    go_roundw
                    case rel => exact ⟨k + 1, D3, by omega, by go_num, HR.out, HKr.out⟩
                    case measure => simp [intOf]; omega
              · have hRe := HSt.out rfl
                obtain ⟨a9, c9, rfl, ha9⟩ := HO8.out.open
                obtain ⟨a6, c6, rfl, ha6⟩ := hO6.open
                have HA : Hid (∀ m, m < 8 → ∃ g9 g6 X, a9 = some ⟨g9, 0, none⟩ ∧ a6 = some ⟨g6, 0, none⟩ ∧ wr.cell? ⟨g9, m, none⟩ = some (.string X) ∧ wr.cell? ⟨g6, m, none⟩ = some (.string X)) := fun m hm => by
                  obtain ⟨g9, e9, _, r9⟩ := ha9 m (by rw [hl8]; exact hm)
                  obtain ⟨g6, e6, _, r6⟩ := ha6 m (by rw [hl9]; exact hm)
                  refine ⟨g9, g6, ⟨(rdL D (m : Int)).toArray⟩, e9, e6, ?_, ?_⟩
                  · have : (reads D3 8)[m]'(by rw [hl8]; exact hm) = rdL D (m : Int) := by
                      rw [List.getElem_of_eq hRe, reads_at D 8 m hm]
                    rw [this] at r9
                    exact r9
                  · rw [reads_at D 8 m hm] at r6
                    exact r6
                rw [hl8, hl9]
                rw [hl8] at HR
                clear ha9 ha6 hRe hO6
                go_loopw [11] (fun t wx => ∃ m : Nat, m ≤ 8 ∧ t = .int .i64 m ∧ Kp none' wr wx) (fun t _ => 8 - (intOf t).toNat)
                case atStart => exact ⟨0, Nat.zero_le _, rfl, Kp.refl _ _⟩
                case round =>
                  obtain ⟨m, hm, rfl, hKx⟩ := hrel
                  by_cases hm8 : m < 8
                  · obtain ⟨g9, g6, X, rfl, rfl, r9, r6⟩ := HA.out m hm8
                    have s9 := hKx.cell r9 (fun h => h)
                    have s6 := hKx.cell r6 (fun h => h)
                    clear r9 r6
                    go_upto_region 23 with fail
                    go_quiet (fail)
                    go_wp2
                    go_roundw
                    case rel => exact ⟨m + 1, by omega, by go_num, hKx.then (Kp.drewN _ _ _)⟩
                    case measure => simp [intOf]; omega
                  · go_wp2
                    go_roundw
                    case rel => exact ⟨k + 1, D3, by omega, by go_num, HR.out.keptN hKx, HKr.out.thenN hKx⟩
                    case measure => simp [intOf]; omega
    · have HG8 := hide (goes_on D hn8)
      have HGc := hide (gone_c D)
      have HC : Hid (0 ≤ D.c ∧ D.c ≤ 1000) := ⟨hc0, by omega⟩
      obtain ⟨Z, HZ⟩ : ∃ Z : ByteArray, Hid (⟨(whole xB.data.toList).toArray⟩ = Z) := ⟨_, rfl⟩
      have HKr : Hid (Kp p.mem w2 wr) := hKr
      clear hst hf hc0 hck hn8 hlast hO2 hKr
      go_upto_region 27 with (first
        | (go_at_call 24; refine (crash_any p D _ [] (-1) 0 0 _ hDr HC.out.1 (by have := HC.out.2; omega) (Sl.nil _ _ _) (fun _ _ => Nat.zero_le _)).mono ?_; rintro e w7 ⟨rfl, hD7, hk7⟩)
        | fail)
      go_wp2_with (first
        | (go_at_call 28; refine (write_any p (D.crash [] (-1) 0) 0 xB _ hD7 (by rw [HGc.out.1]; exact HC.out.1) (by rw [HGc.out.1]; have := HC.out.2; omega) (by show 1 ≤ maxLen; unfold maxLen; omega)).mono ?_; rintro e w8 ⟨rfl, hD8, hk8⟩; rw [HG8.out.1])
        | (go_at_call 25; refine (sync_any p ((D.crash [] (-1) 0).write 0 xB) _ hD8 (by rw [HGc.out.2]; have := HC.out.1; omega) (by rw [HGc.out.2]; have := HC.out.2; omega)).mono ?_; rintro e w9 ⟨rfl, hD9, hk9⟩; rw [HG8.out.2.1])
        | (go_at_call 19; refine (read_any p ((D.crash [] (-1) 0).write 0 xB).sync 0 _ hD9).mono ?_; rintro e w10 ⟨rfl, hk10⟩; rw [HG8.out.2.2, HZ.out])
        | (go_at_call 22; refine (whole_any xB _ (by show 1 ≤ maxLen; unfold maxLen; omega)).mono ?_; rintro e w11 ⟨rfl, hk11⟩; rw [HZ.out])
        | fail)
      go_ret
      exact ⟨rfl, (HKw.out.trans ((((((HK2.out.then HKr.out).then hk7).then hk8).then hk9).thenN hk10).thenN hk11) (fun _ _ h => h) (fun k hk h => absurd hk (by have := HPG.out k h; have := HG.out; omega))).grown⟩

end Go.Proofs.Ytlalnaaeljikgaa.deviceStops
