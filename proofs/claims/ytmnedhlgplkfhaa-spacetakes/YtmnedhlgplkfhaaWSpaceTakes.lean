/- The walk of the law SpaceTakes. Conditions: those that the theorem states. -/
import Derived.Test.YtmnedhlgplkfhaaSLv
namespace Go.Proofs.Ytmnedhlgplkfhaa.spaceTakes
open Go.RowKit
set_option linter.unusedVariables false

theorem full_of {S : Sw} {n : Nat} {U : Nat → Bool} (h : Tk S n U) (hU : ∀ i, 0 < i → i < n → U i = true) : Tk S n (fun _ => true) := h.congr hU
set_option maxRecDepth 100000 in
set_option maxHeartbeats 3200000 in
theorem walk (n0 : Int) (v : Value) (L : List Int) (w : World) (hS : Sl (Value.int .i64) w.heap.size w v L) : Calls Try.prog 3 #[.int .i64 n0, v] w fun e w' => e = .returned (.bool true) ∧ w.grownBy w' none := by
  obtain ⟨a, cap, rfl, hlc, hcm, hcs'⟩ := hS
  unfold maxLen at hcm
  have HCS := hide hcs'
  clear hcs'
  have hnn := pagesN_le n0
  obtain ⟨n, HN⟩ : ∃ n, Hid (pagesN n0 = n) := ⟨_, rfl⟩
  have hpg := spages_any n0
  rw [HN.out] at hnn
  have hpg2 : ∀ w1 : World, Calls Try.prog 5 #[.int .i64 n0] w1 fun e w' => e = .returned (.int .i64 (n : Int)) ∧ w' = w1 := fun w1 => by
    have := hpg w1
    rw [HN.out] at this
    exact this
  have HPG := hide hpg2
  clear hpg hpg2
  have HFR : Hid (∀ w1 : World, Calls Try.prog 7 #[.int .i64 (n : Int)] w1 fun e w' => ∃ (q : Cq) (D : Dv), e = .returned (.pointer (some ⟨q.c, 0, none⟩)) ∧ q.n = n ∧ Cas w' q (fun k => w1.heap.size ≤ k) D (fun _ => fillB 0) 0 0 [] 0 0 ∧ Kp none' w1 w') := fun w1 => by
    refine (sfresh_any n w1 hnn.1 (by omega)).mono ?_
    rintro e w' ⟨q, D, rfl, a1, a2, a3, a4, a5⟩
    exact ⟨q, D, rfl, a1, a4, a5⟩
  have HBG : Hid (∀ (w1 w2 : World) (q : Cq) (D : Dv), q.n = n → Kp none' w w1 → Kp none' w1 w2 → Cas w2 q (fun k => w1.heap.size ≤ k) D (fun _ => fillB 0) 0 0 [] 0 0 → Calls Try.prog 6 #[.pointer (some ⟨q.c, 0, none⟩)] w2 fun e w' => ∃ r c, e = .returned (.tuple #[.pointer (some ⟨r, 0, none⟩), .int .i64 0]) ∧ Wk w' r (fun k => w.heap.size ≤ k) c 0 ⟨zeroP n, zeroP n, [], false⟩ ∧ Kp none' w w') := fun w1 w2 q D hq hk hk2 hC => by
    have hC' : Cst w2 q (fun k => w1.heap.size ≤ k) D (fun _ => fillB 0) 0 0 ⟨[], 0, 0⟩ := hC
    refine (sbegin_any hC' (zeroP n) (by rw [zeroP_len, hq]) (by omega) (by omega) (fun i hi => by rw [zeroP_at n i (by omega)]) (zeroP_sz n) (by show 0 + 0 ≤ _; omega)).mono ?_
    rintro e w' ⟨r, rfl, F', V, s', a1, a2, a3⟩
    refine ⟨r, q.c, rfl, a1.mono (fun k _ h => ?_) (Nat.le_refl _), (hk.then hk2).trans a2.k (fun _ _ h => h) (fun k hk3 h => absurd h (by have := hk.size; omega))⟩
    have := (a3 k h).1
    have := hk.size
    have := hk2.size
    omega
  have HTK : Hid (∀ (w1 : World) (r c m : Nat) (S T : Sw) (a b : Int), m ≤ 1000 → Wk w1 r (fun k => w.heap.size ≤ k) c m S → Kp none' w w1 → S.takeE = (a, b) → S.take (fillB 0) = T → Calls Try.prog 8 #[.pointer (some ⟨r, 0, none⟩)] w1 fun e w' => e = .returned (.tuple #[.int .i64 a, .int .i64 b]) ∧ Wk w' r (fun k => w.heap.size ≤ k) c (m + 2) T ∧ Kp none' w w') := fun w1 r c m S T a b hm hW hk ha hT => by
    have := stake_any r _ c m S w1 hW (by omega)
    rw [ha, hT] at this
    refine this.mono ?_
    rintro e w' ⟨rfl, b1, b2⟩
    refine ⟨rfl, b1.mono (fun k _ h => ?_) (Nat.le_refl _), hk.trans b2 (fun _ _ h => h) (fun k h1 h2 => absurd h2 (by omega))⟩
    rcases h with h | h
    · exact h
    · exact Nat.le_trans hk.size h
  have HDR : Hid (∀ (w1 : World) (r c m : Nat) (S T : Sw) (z a : Int), m ≤ 1000 → Wk w1 r (fun k => w.heap.size ≤ k) c m S → Kp none' w w1 → S.dropE z = a → S.drop z = T → Calls Try.prog 10 #[.pointer (some ⟨r, 0, none⟩), .int .i64 z] w1 fun e w' => e = .returned (.int .i64 a) ∧ Wk w' r (fun k => w.heap.size ≤ k) c (m + 1) T ∧ Kp none' w w') := fun w1 r c m S T z a hm hW hk ha hT => by
    have := sdrop_any r z _ c m S w1 hW (by omega)
    rw [ha, hT] at this
    refine this.mono ?_
    rintro e w' ⟨rfl, b1, b2⟩
    refine ⟨rfl, b1.mono (fun k _ h => ?_) (Nat.le_refl _), hk.trans b2 (fun _ _ h => h) (fun k h1 h2 => absurd h2 (by omega))⟩
    rcases h with h | h
    · exact h
    · exact Nat.le_trans hk.size h
  have HUS : Hid (∀ (w1 : World) (r c m : Nat) (S : Sw), Wk w1 r (fun k => w.heap.size ≤ k) c m S → Tk S n (fun _ => true) → Calls Try.prog 9 #[.pointer (some ⟨r, 0, none⟩)] w1 fun e w' => e = .returned (.int .i64 (n : Int)) ∧ w' = w1) := fun w1 r c m S hW hT => by
    have := susedN_any r _ c m S w1 hW
    rw [(hT.full (fillB 0) (fun _ _ _ => rfl)).2.2] at this
    exact this
  go_enter Try.func3, Try.ntmps3
  go_wp2_with (first
    | (go_at_call 4; refine (slives_any _).mono ?_; rintro e w1 ⟨rfl, hk1⟩)
    | (go_at_call 5; refine (HPG.out _).mono ?_; rintro e w' ⟨rfl, hw'⟩; obtain rfl := hw'.symm)
    | (go_at_call 7; refine (HFR.out _).mono ?_; rintro e w2 ⟨q, D, rfl, hq2, hC2, hk2⟩)
    | (go_at_call 6; refine (HBG.out w1 w2 q D hq2 hk1 hk2 hC2).mono ?_; rintro e w3 ⟨r, c, rfl, hW3, hk3⟩)
    | fail)
  have HW3 := hide hW3
  have HK3 := hide hk3
  clear hC2 hW3 hk3
  go_loopw [7] (fun t wr => ∃ k : Nat, 1 ≤ k ∧ k ≤ n ∧ t = .int .i64 k ∧ ∃ (S : Sw) (m : Nat), m ≤ 2 * k ∧ Wk wr r (fun k => w.heap.size ≤ k) c m S ∧ Tk S n (fun i => decide (i < k)) ∧ Kp none' w wr) (fun t _ => n - (intOf t).toNat)
  case atStart => exact ⟨1, Nat.le_refl _, hnn.1, rfl, _, 0, Nat.zero_le _, HW3.out, (Tk.begin n hnn.1 (by omega)).congr (fun i h1 h2 => by
    have : ¬ i < 1 := by omega
    rw [decide_eq_false this]), HK3.out⟩
  case round =>
    obtain ⟨k, hk1', hk, rfl, S, m, hm, hW, hT, hK⟩ := hrel
    clear HW3 HK3
    by_cases hlt : k < n
    · have hki : (k : Int) < (n : Int) := by omega
      obtain ⟨e1, hT2⟩ := hT.take k (fillB 0) hk1' hlt (decide_eq_false (by omega)) (fun i _ h => decide_eq_true h) (fillB_size 0)
      have htk := HTK.out wr r c m S _ _ _ (by omega) hW hK e1 rfl
      have HT2 : Hid (Tk (S.take (fillB 0)) n (fun i => decide (i < k + 1))) := hT2.congr (fun i h1 h2 => by
        by_cases e : i = k
        · subst e
          rw [decide_eq_true (by omega : i < i + 1)]
          simp
        · have h3 : (i == k) = false := by simpa using e
          rw [h3, Bool.false_or]
          by_cases h4 : i < k
          · rw [decide_eq_true h4, decide_eq_true (by omega : i < k + 1)]
          · rw [decide_eq_false h4, decide_eq_false (by omega : ¬ i < k + 1)])
      have HTKK := hide htk
      clear hT2 hT htk e1 hW
      go_wp2_with (first
        | (go_at_call 8; refine HTKK.out.mono ?_; rintro e w4 ⟨rfl, hW4, hk4⟩)
        | fail)
      go_roundw
      case rel => exact ⟨k + 1, by omega, by omega, by go_num, _, m + 2, by omega, hW4, HT2.out, hk4⟩
      case measure => simp [intOf]; omega
    · have hkn : k = n := by omega
      have hTf : Tk S n (fun _ => true) := hT.congr (fun i h1 h2 => decide_eq_true (by omega))
      obtain ⟨e1, e2, e3⟩ := hTf.full (fillB 0) (fun _ _ _ => rfl)
      have htk := hide (HTK.out wr r c m S _ _ _ (by omega) hW hK e1 e2)
      have HTF := hide hTf
      have hnk : ¬ (n : Int) < (n : Int) := by omega
      subst hkn
      have hnn2 : ((k : Int) != (k : Int)) = false := by simp
      clear hT hTf e1 e2 e3 hW hK
      go_wp2_with (first
        | (go_at_call 8; refine htk.out.mono ?_; rintro e w4 ⟨rfl, hW4, hk4⟩)
        | (go_at_call 9; refine (HUS.out w4 r c _ S hW4 HTF.out).mono ?_; rintro e w' ⟨rfl, hw'⟩; obtain rfl := hw'.symm)
        | fail)
      have HW4 := hide hW4
      have HK4 := hide hk4
      clear hW4 hk4
      go_loopw [12] (fun t wr => ∃ i : Nat, i ≤ L.length ∧ i ≤ 100 ∧ t = .int .i64 i ∧ ∃ (S : Sw) (m : Nat), m ≤ 2 * k + 2 + 3 * i ∧ Wk wr r (fun k => w.heap.size ≤ k) c m S ∧ Tk S k (fun _ => true) ∧ Kp none' w wr) (fun t _ => L.length - (intOf t).toNat)
      case atStart => exact ⟨0, Nat.zero_le _, Nat.zero_le _, rfl, S, m + 2, by omega, HW4.out, HTF.out, HK4.out⟩
      case round =>
        obtain ⟨i, hi, hi100, rfl, S, m, hm, hW, hT, hK⟩ := hrel
        clear HW4 HK4 HTF htk
        by_cases hlt2 : i < L.length ∧ i < 100
        · obtain ⟨hl1, hl2⟩ := hlt2
          have hii : (i : Int) < (L.length : Int) := by omega
          have hi10 : (i : Int) < 100 := by omega
          obtain ⟨b, off, rfl, hbl, hci⟩ := HCS.out i hl1
          have hcr := hK.cell hci (fun h => h)
          obtain ⟨z, HZ⟩ : ∃ z, Hid (L[i] = z) := ⟨_, hide rfl⟩
          rw [HZ.out] at hcr
          by_cases hz : 0 < z ∧ z < (k : Int)
          · obtain ⟨d1, hT1⟩ := hT.drop z hz.1 hz.2 rfl
            obtain ⟨t1, hT2⟩ := hT1.take z.toNat (fillB 0) (by omega) (by omega) (by simp) (fun j h1 h2 => by
              have : (j == z.toNat) = false := by simpa using (by omega : j ≠ z.toNat)
              simp [this]) (fillB_size 0)
            have HT2 : Hid (Tk ((S.drop z).take (fillB 0)) k (fun _ => true)) := hT2.congr (fun j h1 h2 => by
              cases h : (j == z.toNat) <;> simp)
            have hzz : ((z.toNat : Nat) : Int) = z := by omega
            rw [hzz] at t1
            have hdr := hide (HDR.out wr r c m S _ z _ (by omega) hW hK d1 rfl)
            have htk2 : Hid (∀ (w1 : World), Wk w1 r (fun k => w.heap.size ≤ k) c (m + 1) (S.drop z) → Kp none' w w1 → Calls Try.prog 8 #[.pointer (some ⟨r, 0, none⟩)] w1 fun e w' => e = .returned (.tuple #[.int .i64 z, .int .i64 0]) ∧ Wk w' r (fun k => w.heap.size ≤ k) c (m + 1 + 2) ((S.drop z).take (fillB 0)) ∧ Kp none' w w') := fun w1 h1 h2 => HTK.out w1 r c (m + 1) (S.drop z) _ _ _ (by omega) h1 h2 t1 rfl
            have hz0 := hz.1
            have hz1 := hz.2
            have HCI := hide hci
            have hzne : (z != z) = false := by simp
            clear hz hT hT1 hT2 d1 t1 hW hzz hci
            go_wp2_with (first
              | (go_at_call 10; refine hdr.out.mono ?_; rintro e w5 ⟨rfl, hW5, hk5⟩)
              | (go_at_call 8; refine (htk2.out w5 hW5 hk5).mono ?_; rintro e w6 ⟨rfl, hW6, hk6⟩; have hcr6 := hk6.cell HCI.out (fun h => h); rw [HZ.out] at hcr6)
              | fail)
            go_roundw
            case rel => exact ⟨i + 1, by omega, by omega, by go_num, _, m + 3, by omega, hW6, HT2.out, hk6⟩
            case measure => simp [intOf]; omega
          · obtain ⟨d1, d2⟩ := hT.drop_no z hz
            obtain ⟨t1, t2, _⟩ := hT.full (fillB 0) (fun _ _ _ => rfl)
            have hdr := hide (HDR.out wr r c m S _ z _ (by omega) hW hK d1 d2)
            have htk2 : Hid (∀ (w1 : World), Wk w1 r (fun k => w.heap.size ≤ k) c (m + 1) S → Kp none' w w1 → Calls Try.prog 8 #[.pointer (some ⟨r, 0, none⟩)] w1 fun e w' => e = .returned (.tuple #[.int .i64 0, .int .i64 8]) ∧ Wk w' r (fun k => w.heap.size ≤ k) c (m + 1 + 2) S ∧ Kp none' w w') := fun w1 h1 h2 => HTK.out w1 r c (m + 1) S _ _ _ (by omega) h1 h2 t1 t2
            have HT2 := hide hT
            have HCI := hide hci
            clear hT d1 d2 t1 t2 hW hci
            by_cases hz0 : 0 < z
            · have hz1 : ¬ z < (k : Int) := fun h => hz ⟨hz0, h⟩
              clear hz
              go_wp2_with (first
                | (go_at_call 10; refine hdr.out.mono ?_; rintro e w5 ⟨rfl, hW5, hk5⟩)
                | (go_at_call 8; refine (htk2.out w5 hW5 hk5).mono ?_; rintro e w6 ⟨rfl, hW6, hk6⟩; have hcr6 := hk6.cell HCI.out (fun h => h); rw [HZ.out] at hcr6)
                | fail)
              go_roundw
              case rel => exact ⟨i + 1, by omega, by omega, by go_num, _, m + 3, by omega, hW6, HT2.out, hk6⟩
              case measure => simp [intOf]; omega
            · clear hz
              go_wp2_with (first
                | (go_at_call 10; refine hdr.out.mono ?_; rintro e w5 ⟨rfl, hW5, hk5⟩)
                | (go_at_call 8; refine (htk2.out w5 hW5 hk5).mono ?_; rintro e w6 ⟨rfl, hW6, hk6⟩; have hcr6 := hk6.cell HCI.out (fun h => h); rw [HZ.out] at hcr6)
                | fail)
              go_roundw
              case rel => exact ⟨i + 1, by omega, by omega, by go_num, _, m + 3, by omega, hW6, HT2.out, hk6⟩
              case measure => simp [intOf]; omega
        · have hus := hide (HUS.out wr r c m S hW hT)
          have HKK := hide hK
          clear hW hT hK
          have hkk2 : ((k : Int) == (k : Int)) = true := by simp
          by_cases hl1 : i < L.length
          · have hii : (i : Int) < (L.length : Int) := by omega
            have hi10 : ¬ (i : Int) < 100 := by omega
            clear hlt2
            go_wp2_with (first
              | (go_at_call 9; refine hus.out.mono ?_; rintro e w' ⟨rfl, hw'⟩; obtain rfl := hw'.symm)
              | fail)
            go_ret
            exact ⟨rfl, HKK.out.grown⟩
          · have hii : ¬ (i : Int) < (L.length : Int) := by omega
            clear hlt2
            go_wp2_with (first
              | (go_at_call 9; refine hus.out.mono ?_; rintro e w' ⟨rfl, hw'⟩; obtain rfl := hw'.symm)
              | fail)
            go_ret
            exact ⟨rfl, HKK.out.grown⟩

end Go.Proofs.Ytmnedhlgplkfhaa.spaceTakes
