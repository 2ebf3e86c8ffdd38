/- The walk of the law DevicePlays. Conditions: those that the theorem states. -/
import Derived.Test.YtlalnaaeljikgaaDRefC
namespace Go.Proofs.Ytlalnaaeljikgaa.devicePlays
open Go.RowKit
set_option linter.unusedVariables false

/-- The blocks of both devices. -/
def PM (p : Dp) (p' : Rp) (k : Nat) : Prop := p.mem k ∨ p'.mem k
/-- Both devices are the same device. -/
def PlR (p : Dp) (p' : Rp) (N : Nat) (wr : World) (k : Nat) (D : Dv) : Prop := Dev wr p D ∧ Ref wr p' (Rv.of D) ∧ D.okF ∧ 0 ≤ D.c ∧ D.c ≤ k ∧ D.n = N
set_option maxRecDepth 100000 in
set_option maxHeartbeats 3200000 in
theorem walk (n : Int) (v : Value) (l : List OpD) (w : World) (hO : Ops w.heap.size w v l) : Calls Try.prog 3 #[.int .i64 n, v] w fun e w' => e = .returned (.bool true) ∧ w.grownBy w' none := by
  obtain ⟨N, hN, hN20⟩ : ∃ N : Nat, wrap64 ((IntKind.u64.wrap n).tmod 20) = (N : Int) ∧ N < 20 := by
    have e : IntKind.u64.wrap n = n % 18446744073709551616 := by rfl
    refine ⟨((n % 18446744073709551616) % 20).toNat, ?_, by omega⟩
    rw [e, Int.tmod_eq_emod_of_nonneg (by omega)]
    unfold wrap64
    omega
  obtain ⟨g, HG⟩ : ∃ g, Hid (w.heap.size = g) := ⟨_, rfl⟩
  rw [HG.out] at hO
  go_enter Try.func3, Try.ntmps3
  go_upto_region 4 with (first
    | (go_at_call 9; refine (dlives_any _).mono ?_; rintro e wb ⟨rfl, hkb⟩; have hOb := hO.kept hkb (fun _ _ h => h))
    | fail)
  rw [hN]
  clear hN
  go_upto_region 5 with (first
    | (go_at_call 10; refine (early_any g v l _ hOb).mono ?_; rintro e wb' ⟨v', rfl, rfl, hOe⟩)
    | fail)
  have hle : (l.take 300).length ≤ 300 := by rw [List.length_take]; omega
  obtain ⟨L, HL⟩ : ∃ L, Hid (l.take 300 = L) := ⟨_, rfl⟩
  rw [HL.out] at hOe hle
  obtain ⟨va, vc, rfl, hv1, hv2⟩ := hOe.shape
  unfold maxLen at hv2
  clear hO hOb
  go_upto_region 6 with (first
    | (go_at_call 11; refine (new_any _ _).mono ?_; rintro e w1 ⟨p, rfl, hD1, hk1, hp1⟩)
    | (go_at_call 12; refine (rnew_any N _ (by omega)).mono ?_; rintro e w2 ⟨p', rfl, hR2, hk2, hp2⟩)
    | fail)
  have eN : newN (N : Int) = N := by unfold newN; omega
  rw [eN] at hD1
  clear eN
  have hD2 := hD1.keptN hk2
  have hO2 := (hOe.kept hk1 (fun _ _ h => h)).kept hk2 (fun _ _ h => h)
  have HPG : Hid (∀ k, p.mem k → g ≤ k) := fun k h => by have := hp1 k h; have := hkb.size; have := HG.out; omega
  have HPG' : Hid (∀ k, p'.mem k → g ≤ k) := fun k h => by have := hp2 k h; have := hk1.size; have := hkb.size; have := HG.out; omega
  have HPM : Hid (∀ k, PM p p' k → g ≤ k) := fun k h => h.elim (HPG.out k) (HPG'.out k)
  have HDJ : Hid (∀ k, p.mem k → ¬ p'.mem k) := fun k h h' => by have := hp2 k h'; have := hD1.lt k h; omega
  have HKw : Hid (Kp none' w w2) := (hkb.then hk1).then hk2
  clear hOe hk1 hkb hp1 hp2 hk2 hD1
  go_upto_region 7 with fail
  go_loopw [7] (fun t wr => ∃ (k : Nat) (D : Dv), k ≤ L.length ∧ t = .int .i64 k ∧ PlR p p' N wr k D ∧ Kp (PM p p') w2 wr) (fun t _ => L.length - (intOf t).toNat)
  case atStart => exact ⟨0, fresh N, Nat.zero_le _, rfl, ⟨hD2, hR2, (fun h => by cases h), Int.le_refl _, Int.le_refl _, rfl⟩, Kp.refl _ _⟩
  case round =>
    obtain ⟨k, D, hk, rfl, ⟨hDr, hRr, hf, hc0, hck, hnN⟩, hKr⟩ := hrel
    clear hD2 hR2
    by_cases hlt : k < L.length
    · have hOr := hO2.kept hKr (fun j hj h => by have := HPM.out j h; omega)
      obtain ⟨b, off, rfl, hb, hok, c0, c1, c2, c3, c4⟩ := hOr.at k hlt
      have hki : (k : Int) < (L.length : Int) := by omega
      obtain ⟨q, Ho⟩ : ∃ q, Hid (L[k]'hlt = q) := ⟨_, rfl⟩
      rw [Ho.out] at hok c0 c1 c2 c3 c4
      clear hO2 hOr
      have HC : Hid (0 ≤ D.c ∧ D.c ≤ 1000000) := ⟨hc0, by omega⟩
      have hsc := step_c D q
      have hsn := step_n D q
      have hsf := okF_step D q hf hc0
      have HF : Hid D.okF := hf
      have hbP : ¬ PM p p' b := fun h => by have := HPM.out b h; omega
      have HOk : Hid (∀ W, Kp (PM p p') wr W → q.ok g W) := fun W h => hok.kept h (fun j hj hm => by have := HPM.out j hm; omega)
      have HD5 : Hid (∀ W : World, Kp (PM p p') wr W → W.cell? ⟨b, off + k * 5, none⟩ = some (.int .i64 q.k) ∧ W.cell? ⟨b, off + k * 5 + 1, none⟩ = some (.int .i64 q.i) ∧ W.cell? ⟨b, off + k * 5 + 2, none⟩ = some (.string q.s) ∧ W.cell? ⟨b, off + k * 5 + 3, none⟩ = some q.kv ∧ W.cell? ⟨b, off + k * 5 + 4, none⟩ = some (.int .i64 q.c)) := fun W h =>
        ⟨h.cell c0 hbP, h.cell c1 hbP, h.cell c2 hbP, h.cell c3 hbP, h.cell c4 hbP⟩
      have Hkd : Hid (Kp (PM p p') wr wr.drew) := Kp.drew _ _
      have HDd : Hid (Dev wr.drew p D) := hDr.drew
      have HRd : Hid (Ref wr.drew p' (Rv.of D)) := hRr.keptN (Kp.drew _ _)
      have h4 := hDr.n4
      obtain ⟨E, HE⟩ : ∃ E, Hid (D.stepE q = E) := ⟨_, rfl⟩
      obtain ⟨D', HD'⟩ : ∃ D', Hid (D.step q = D') := ⟨_, rfl⟩
      rw [HD'.out] at hsc hsn hsf
      obtain ⟨C, HCc⟩ : ∃ C, Hid (D'.c = C) := ⟨_, rfl⟩
      have hE : (E != E) = false := by simp
      have hC : (C != C) = false := by simp
      have HKr : Hid (Kp (PM p p') w2 wr) := hKr
      have HL : Hid ((unsI D').length ≤ 4096) := by have := unsI_len D'; have := unsL_le D'; show _ ≤ _; omega
      obtain ⟨e0, e1, e2, e3, e4⟩ := HD5.out _ Hkd.out
      have HN' : Hid (D'.n = N ∧ 0 ≤ D'.c ∧ D'.c ≤ ((k + 1 : Nat) : Int) ∧ D'.okF) := ⟨by omega, by omega, by omega, hsf⟩
      clear hDr hRr hKr c0 c1 c2 c3 c4 hok hf hc0 h4 hsc hsn hsf hck hnN hbP
      go_upto_region 9 with fail
      go_cut [56] from 21 to 68 (fun t W => t = .bool false ∧ Dev W p D' ∧ Ref W p' (Rv.of D') ∧ Kp (PM p p') wr W)
      case rest =>
        obtain ⟨rfl, hDc, hRc, hkc⟩ := hcut
        clear e0 e1 e2 e3 e4
        go_upto_region 12 with fail
        go_loopw [8] (fun t wx => ∃ i : Int, -1 ≤ i ∧ i ≤ (N : Int) + 1 ∧ t = .int .i64 i ∧ Kp none' wc wx) (fun t _ => ((N : Int) + 1 - intOf t).toNat)
        case atStart => exact ⟨-1, by omega, by omega, rfl, Kp.refl _ _⟩
        case round =>
          obtain ⟨i, hi1, hi2, rfl, hKx⟩ := hrel
          by_cases hiN : i ≤ (N : Int)
          · have hDx := hDc.keptN hKx
            have hRx := hRc.keptN hKx
            obtain ⟨X, HX⟩ : ∃ X : ByteArray, Hid (⟨(rdL D' i).toArray⟩ = X) := ⟨_, rfl⟩
            go_wp2_with (first
              | (go_at_call 19; refine (read_any p D' i _ hDx).mono ?_; rintro e w8 ⟨rfl, hk8⟩; rw [HX.out])
              | (go_at_call 20; refine (rread_any p' D' i _ (hRx.keptN hk8)).mono ?_; rintro e w9 ⟨rfl, rfl⟩; rw [HX.out])
              | fail)
            go_roundw
            case rel => exact ⟨i + 1, by omega, by omega, by go_num, hKx.then hk8⟩
            case measure => simp [intOf]; omega
          · obtain rfl : i = (N : Int) + 1 := by omega
            go_wp2
            go_roundw
            case rel => exact ⟨k + 1, D', by omega, by go_num, ⟨hDc.keptN hKx, hRc.keptN hKx, HN'.out.2.2.2, HN'.out.2.1, HN'.out.2.2.1, HN'.out.1⟩, (HKr.out.then hkc).thenN hKx⟩
            case measure => simp [intOf]; omega
      case first =>
        clear hv1 hv2 hN20
        go_region_with (first
          | (go_at_call 13; refine (does_any p D q g _ HDd.out HC.out.1 HC.out.2 (HOk.out _ Hkd.out) HPG.out).mono ?_; rintro e w3 ⟨rfl, hD3, hk3⟩; rw [HE.out]; rw [HD'.out] at hD3; have K3 : Hid (Kp (PM p p') wr w3) := Hkd.out.then (hk3.mono (fun _ _ h => .inl h)); have hR3 : Hid (Ref w3 p' (Rv.of D)) := HRd.out.kept hk3 (fun k h h' => HDJ.out k h' h); obtain ⟨x0, x1, x2, x3, x4⟩ := HD5.out _ K3.out; have HD3 := hide hD3; clear hD3 hk3)
          | (go_at_call 14; refine (rdoes_any p' D q g _ hR3.out HF.out HC.out.1 HC.out.2 (HOk.out _ K3.out) HPG'.out).mono ?_; rintro e w4 ⟨rfl, hR4, hk4⟩; rw [HE.out]; rw [HD'.out] at hR4; have K4 : Hid (Kp (PM p p') wr w4) := K3.out.then (hk4.mono (fun _ _ h => .inr h)); have HD4 : Hid (Dev w4 p D') := HD3.out.kept hk4 (fun k h h' => HDJ.out k h h'); have y1 : w4.cell? ⟨p'.r, 1, none⟩ = some (.int .i64 C) := by rw [← HCc.out]; exact hR4.c1
             have HR4 := hide hR4; clear hR4 hk4 x0 x1 x2 x3 x4 e0 e1 e2 e3 e4)
          | (go_at_call 15; refine (calls_any p D' _ HD4.out).mono ?_; rintro e w4' ⟨rfl, rfl⟩; rw [HCc.out])
          | (go_at_call 17; refine (unsure_any p D' _ HD4.out).mono ?_; rintro e w5 ⟨v5, rfl, hO5, hk5⟩; have HO5 := hide hO5; have HK5 := hide hk5; clear hO5 hk5)
          | (go_at_call 18; refine (runsure_any p' (Rv.of D') _ (HR4.out.keptN HK5.out)).mono ?_; rintro e w6 ⟨v6, rfl, hO6, hk6⟩; have HO6 := hide hO6; have HK6 := hide hk6; clear hO6 hk6)
          | (go_at_call 16; refine (sameInts_any v5 v6 (unsI D') _ _ _ (HO5.out.kept HK6.out (fun _ _ h => h)) HO6.out HL.out).mono ?_; rintro e w7 ⟨rfl, hk7⟩)
          | fail)
        all_goals
          have HK57 := hide ((HK5.out.then HK6.out).then hk7)
          clear hk7
          go_wp2
          go_meet
          case rel => exact ⟨rfl, HD4.out.keptN HK57.out, HR4.out.keptN HK57.out, K4.out.thenN HK57.out⟩
    · obtain rfl : k = L.length := by omega
      go_wp2_with (go_at_call 21; refine (size_any p D _ hDr).mono ?_; rintro e w3 ⟨rfl, rfl⟩; rw [hnN])
      go_ret
      exact ⟨by simp, (HKw.out.trans hKr (fun _ _ h => h) (fun k hk h => absurd hk (by have := HPM.out k h; have := HG.out; omega))).grown⟩

end Go.Proofs.Ytlalnaaeljikgaa.devicePlays
