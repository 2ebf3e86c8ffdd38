/- The walk of the law PagerOpens. Conditions: those that the theorem states. -/
import Derived.Test.YtgfijbbibafdfaaPLives
import Derived.Test.YtgfijbbibafdfaaUDRef
namespace Go.Proofs.Ytgfijbbibafdfaa.pagerOpens
open Go.RowKit
set_option linter.unusedVariables false

/-- The device behind the law's own writes. -/
structure Yes (D : Dv) (N : Nat) (s : ByteArray) : Prop where
  n : D.n = N
  m : says (D.at 0) = true
  d : D.at 1 = whole s.data.toList
  c : D.c = 3
  st : D.st = false
theorem yes_of (N : Nat) (s : ByteArray) (h : 126 ≤ N) (hs : s.size ≤ 64) : wrE (fresh N) 1 s = 0 ∧ wrE ((fresh N).write 1 s) 0 ⟨(markL true).toArray⟩ = 0 ∧ syE (((fresh N).write 1 s).write 0 ⟨(markL true).toArray⟩) = 0 ∧
    ((fresh N).write 1 s).c = 1 ∧ (((fresh N).write 1 s).write 0 ⟨(markL true).toArray⟩).c = 2 ∧ Yes (((fresh N).write 1 s).write 0 ⟨(markL true).toArray⟩).sync N s := by
  have h1 : hasB N 1 = true := by simp [hasB]; omega
  have h0 : hasB N 0 = true := by simp [hasB]; omega
  have hst : stillB (fresh N) = false := rfl
  have e1 : wrE (fresh N) 1 s = 0 := by
    unfold wrE
    rw [hst, show (fresh N).n = N from rfl, h1, if_pos hs]
    rfl
  have w1 : (fresh N).write 1 s = { (fresh N).called with u := put (fresh N).u 1 (whole s.data.toList) } := by
    unfold Dv.write
    rw [if_pos e1]
    rfl
  have hms : (⟨(markL true).toArray⟩ : ByteArray).size ≤ 64 := by
    show (markL true).toArray.size ≤ 64
    rw [List.size_toArray, show (markL true).length = 64 from whole_len _]
    exact Nat.le_refl _
  have hwm : whole (⟨(markL true).toArray⟩ : ByteArray).data.toList = markL true := by simpa using whole_self (show (markL true).length = 64 from whole_len _)
  rw [w1]
  have e2 : wrE { (fresh N).called with u := put (fresh N).u 1 (whole s.data.toList) } 0 ⟨(markL true).toArray⟩ = 0 := by
    unfold wrE
    rw [show stillB { (fresh N).called with u := put (fresh N).u 1 (whole s.data.toList) } = false from rfl]
    rw [show ({ (fresh N).called with u := put (fresh N).u 1 (whole s.data.toList) } : Dv).n = N from rfl, h0, if_pos hms]
    rfl
  have w2 : Dv.write { (fresh N).called with u := put (fresh N).u 1 (whole s.data.toList) } 0 ⟨(markL true).toArray⟩ = { (Dv.called { (fresh N).called with u := put (fresh N).u 1 (whole s.data.toList) }) with u := put (put (fresh N).u 1 (whole s.data.toList)) 0 (markL true) } := by
    unfold Dv.write
    rw [if_pos e2, hwm]
    rfl
  rw [w2]
  refine ⟨e1, e2, rfl, rfl, rfl, ⟨rfl, ?_, ?_, rfl, rfl⟩⟩
  · show says (markL true) = true
    exact says_yes
  · rfl
/-- What the law makes of the directory's error. -/
def outE (n : Nat) (E : Int) (L : List Int) : Int := if ∃ z ∈ L, (n : Int) ≤ z then 10 else E
theorem outE_back {D : Dv} {N n : Nat} {s : ByteArray} (h : Yes D N s) (hn : 126 + 4 * n ≤ N) : D.backE n = outE n (rE ⟨(whole s.data.toList).toArray⟩) (rL ⟨(whole s.data.toList).toArray⟩) := by
  unfold Dv.backE
  rw [if_pos h.m, h.d]
  show (if rE ⟨(whole s.data.toList).toArray⟩ = 0 ∧ allB n (rL ⟨(whole s.data.toList).toArray⟩) = true then _ else 10) = _
  rw [goE_free _ D h.st]
  generalize (⟨(whole s.data.toList).toArray⟩ : ByteArray) = t
  unfold outE
  by_cases hE : rE t = 0
  · have h2 := (wE_ok (read_ok hE).1).2
    unfold okP at h2
    simp only [decide_eq_true_eq] at h2
    by_cases hx : ∃ z ∈ rL t, (n : Int) ≤ z
    · rw [if_pos hx, if_neg]
      rintro ⟨_, ha⟩
      obtain ⟨z, hz, hzn⟩ := hx
      unfold allB at ha
      rw [List.all_eq_true] at ha
      have := ha z hz
      simp [hasB] at this
      omega
    · rw [if_neg hx, if_pos, hE]
      refine ⟨hE, ?_⟩
      unfold allB
      rw [List.all_eq_true]
      intro z hz
      have h0 := (h2.1 z hz).1
      have h1 : ¬ (n : Int) ≤ z := fun h => hx ⟨z, hz, h⟩
      simp [hasB]
      omega
  · obtain ⟨h1, h2⟩ := rE_bad hE
    rw [if_neg (fun h => hE h.1), h2, h1, if_neg (by simp)]
set_option maxRecDepth 100000 in
set_option maxHeartbeats 3200000 in
theorem walk (a b : Int) (s : ByteArray) (w : World) (hs : s.size ≤ maxLen) : Calls Try.prog 5 #[.int .i64 a, .int .i64 b, .string s] w fun e w' => e = .returned (.bool true) ∧ w.grownBy w' none := by
  have hsm : s.size ≤ 9223372036854775807 := hs
  by_cases hbad : b < 1 ∨ 160 < b ∨ (newN a : Int) < 126 + 4 * b
  · by_cases h1 : b < 1
    · go_enter Try.func5, Try.ntmps5
      go_upto_region 4 with (first
        | (go_at_call 7; refine (plives_any _).mono ?_; rintro e w1 ⟨rfl, hk1⟩)
        | (go_at_call 10; refine (new_any _ _).mono ?_; rintro e w2 ⟨p, rfl, hD, hk2, hm⟩)
        | fail)
      go_wp2_with (first
        | (go_at_call 12; refine (open_bad _ _ _ _ hD (.inl h1)).mono ?_; rintro e w' ⟨rfl, rfl⟩)
        | fail)
      go_ret
      exact ⟨rfl, (hk1.then hk2).grown⟩
    · by_cases h2 : 160 < b
      · go_enter Try.func5, Try.ntmps5
        go_upto_region 4 with (first
          | (go_at_call 7; refine (plives_any _).mono ?_; rintro e w1 ⟨rfl, hk1⟩)
          | (go_at_call 10; refine (new_any _ _).mono ?_; rintro e w2 ⟨p, rfl, hD, hk2, hm⟩)
          | fail)
        go_wp2_with (first
          | (go_at_call 12; refine (open_bad _ _ _ _ hD (.inr (.inl h2))).mono ?_; rintro e w' ⟨rfl, rfl⟩)
          | fail)
        go_ret
        exact ⟨rfl, (hk1.then hk2).grown⟩
      · have h3 : (newN a : Int) < 126 + 4 * b := by omega
        have HW : Hid (wrap64 (126 + 4 * b) = 126 + 4 * b) := by show _ = _; unfold wrap64; omega
        have hwr : wrap64 (126 + 4 * b) = 126 + 4 * b := HW.out
        go_enter Try.func5, Try.ntmps5
        go_upto_region 4 with (first
          | (go_at_call 7; refine (plives_any _).mono ?_; rintro e w1 ⟨rfl, hk1⟩)
          | (go_at_call 10; refine (new_any _ _).mono ?_; rintro e w2 ⟨p, rfl, hD, hk2, hm⟩)
          | fail)
        go_wp2_with (first
          | (go_at_call 12; refine (open_bad _ _ _ _ hD (.inr (.inr h3))).mono ?_; rintro e w' ⟨rfl, rfl⟩)
          | (go_at_call 24; refine (size_any _ _ _ hD).mono ?_; rintro e w' ⟨rfl, rfl⟩; rw [show (fresh (newN a)).n = newN a from rfl])
          | fail)
        go_ret
        exact ⟨rfl, (hk1.then hk2).grown⟩
  · obtain ⟨n, rfl⟩ : ∃ n : Nat, b = n := ⟨b.toNat, by omega⟩
    have hn1 : 1 ≤ n := by omega
    have hn2 : n ≤ 160 := by omega
    have hi1 : ¬ (n : Int) < 1 := by omega
    have hi2 : ¬ (160 : Int) < (n : Int) := by omega
    have hi3 : ¬ (newN a : Int) < 126 + 4 * (n : Int) := by omega
    have hnN : 126 + 4 * n ≤ newN a := by omega
    clear hbad
    obtain ⟨N, HN⟩ : ∃ N, Hid (newN a = N) := ⟨_, rfl⟩
    rw [HN.out] at hi3 hnN
    have hcb := clean_back (D := fresh N) (n := n) (fun _ => rfl) (fresh_clean n N)
    go_enter Try.func5, Try.ntmps5
    go_upto_region 4 with (first
      | (go_at_call 7; refine (plives_any _).mono ?_; rintro e w1 ⟨rfl, hk1⟩)
      | (go_at_call 10; refine (new_any _ _).mono ?_; rintro e w2 ⟨p, rfl, hD, hk2, hm⟩; rw [HN.out] at hD)
      | fail)
    have hK2 := hk1.then hk2
    have hmw : ∀ k, p.mem k → w.heap.size ≤ k := fun k hk => Nat.le_trans hk1.size (hm k hk)
    have ho := open_any p (fresh N) n w2 hD (Int.le_refl _) (by show (0 : Int) ≤ 980000; omega) hn1 hnN hn2
    rw [hcb.1, hcb.2] at ho
    clear hcb hD
    go_upto_region 7 with (first
      | (go_at_call 12; refine ho.mono ?_; rintro e w3 ⟨pv, rfl, hD3, hk3, h1, _⟩; obtain ⟨g, rfl, _, _⟩ := h1 rfl)
      | (go_at_call 24; refine (size_any _ _ _ hD3).mono ?_; rintro e w' ⟨rfl, rfl⟩; rw [show (fresh N).n = N from rfl])
      | fail)
    have hK3 := kpN hK2 hk3 hmw
    clear ho hk3 h1 hk1 hk2 hK2
    by_cases hlen : 64 < s.size
    · have hli : (64 : Int) < (s.size : Int) := by omega
      go_wp2
      go_ret
      exact ⟨rfl, hK3.grown⟩
    · have hli : ¬ (64 : Int) < (s.size : Int) := by omega
      obtain ⟨y1, y2, y3, y4, y5, hY⟩ := yes_of N s (by omega) (by omega)
      have hback := outE_back hY hnN
      obtain ⟨M, HM⟩ : ∃ M, Hid ((⟨(markL true).toArray⟩ : ByteArray) = M) := ⟨_, rfl⟩
      have hms : M.size ≤ maxLen := by rw [← HM.out]; exact size_mk64 _ (whole_len _)
      rw [HM.out] at y2 y3 y5 hY hback
      obtain ⟨D1, HD1⟩ : ∃ D1, Hid ((fresh N).write 1 s = D1) := ⟨_, rfl⟩
      rw [HD1.out] at y2 y3 y4 y5 hY hback
      obtain ⟨D2, HD2⟩ : ∃ D2, Hid (D1.write 0 M = D2) := ⟨_, rfl⟩
      rw [HD2.out] at y3 y5 hY hback
      obtain ⟨D4, HD4⟩ : ∃ D4, Hid (D2.sync = D4) := ⟨_, rfl⟩
      rw [HD4.out] at hY hback
      have b1 : (0 : Int) ≤ D1.c ∧ D1.c ≤ 1000000 := by rw [y4]; omega
      have b2 : (0 : Int) ≤ D2.c ∧ D2.c ≤ 1000000 := by rw [y5]; omega
      have Y1 := hide y1
      have Y2 := hide y2
      have Y3 := hide y3
      clear y1 y2 y3 y4 y5
      go_upto_region 9 with fail
      go_upto_region 11 with (first
        | (go_at_call 25; refine (write_any p D1 0 M _ hD5 b1.1 b1.2 hms).mono ?_; rintro e w6 ⟨rfl, hD6, hk6⟩; rw [Y2.out]; rw [HD2.out] at hD6)
        | (go_at_call 25; refine (write_any p (fresh N) 1 s _ hD3 (Int.le_refl _) (by show (0 : Int) ≤ 1000000; omega) hs).mono ?_; rintro e w4 ⟨rfl, hD4, hk4⟩; rw [Y1.out]; rw [HD1.out] at hD4)
        | (go_at_call 26; refine (mark_any true _).mono ?_; rintro e w5 ⟨rfl, hk5⟩; rw [HM.out]; have hD5 := hD4.keptN hk5)
        | (go_at_call 27; refine (sync_any p D2 _ hD6 b2.1 b2.2).mono ?_; rintro e w7 ⟨rfl, hD7, hk7⟩; rw [Y3.out]; rw [HD4.out] at hD7)
        | fail)
      have hK7 := kpN (kpN ((kpN hK3 hk4 hmw).then hk5) hk6 hmw) hk7 hmw
      obtain ⟨T, HT⟩ : ∃ T, Hid ((⟨(whole s.data.toList).toArray⟩ : ByteArray) = T) := ⟨_, rfl⟩
      have hTs : T.size ≤ maxLen := by rw [← HT.out]; exact size_mk64 _ (whole_len _)
      rw [HT.out] at hback
      clear hk4 hk5 hk6 hD4 hD5 hD6 hK3 hD3
      go_upto_region 12 with (first
        | (go_at_call 29; refine (whole_any s _ hs).mono ?_; rintro e w8 ⟨rfl, hk8⟩; rw [HT.out])
        | (go_at_call 28; refine (urread_any T _ hTs).mono ?_; rintro e w9 ⟨v, rfl, hO, hk9⟩)
        | fail)
      have hK9 := (hK7.then hk8).then hk9
      have hD9 := (hD7.keptN hk8).keptN hk9
      obtain ⟨av, cv, rfl, hcl⟩ := hO.open
      have HCL := hide hcl
      have hLl : (rL T).length ≤ 255 := rL_len T
      clear hcl hO hK7 hD7 hk8 hk9
      generalize rL T = L at *
      generalize rE T = E at *
      go_upto_region 13 with fail
      go_loopw [11, 12] (fun f t wr => ∃ k : Nat, k ≤ L.length ∧ t = .int .i64 k ∧ f = .int .i64 (outE n E (L.take k)) ∧ Kp none' w9 wr) (fun _ t _ => L.length - (intOf t).toNat)
      case atStart => exact ⟨0, Nat.zero_le _, rfl, by simp [outE], Kp.refl _ _⟩
      case round =>
        obtain ⟨k, hk, rfl, rfl, hK⟩ := hrel
        by_cases hlt : k < L.length
        · have hki : (k : Int) < (L.length : Int) := by omega
          obtain ⟨bb, rfl, _, hc'⟩ := HCL.out k hlt
          have hc := hK.cell hc' (fun h => h)
          have ht : L.take (k + 1) = L.take k ++ [L[k]] := List.take_succ_eq_append_getElem hlt
          have HO1 : Hid ((n : Int) ≤ L[k] → outE n E (L.take (k + 1)) = 10) := fun h => by
            unfold outE
            rw [if_pos ⟨L[k], by rw [ht]; exact List.mem_append_right _ (List.mem_singleton_self _), h⟩]
          have HO2 : Hid (¬ (n : Int) ≤ L[k] → outE n E (L.take (k + 1)) = outE n E (L.take k)) := fun h => by
            unfold outE
            congr 1
            rw [ht]
            refine propext ⟨fun ⟨z, hz, hzn⟩ => ?_, fun ⟨z, hz, hzn⟩ => ⟨z, List.mem_append_left _ hz, hzn⟩⟩
            rcases List.mem_append.1 hz with hz | hz
            · exact ⟨z, hz, hzn⟩
            · rw [List.mem_singleton.1 hz] at hzn; exact absurd hzn h
          clear hc' ht
          generalize L[k] = z at *
          by_cases hz : (n : Int) ≤ z
          · have hO := HO1.out hz
            go_wp2
            go_roundw
            case rel => exact ⟨k + 1, by omega, by go_num, by rw [hO], hK⟩
            case measure => simp [intOf]; omega
          · have hO := HO2.out hz
            go_wp2
            go_roundw
            case rel => exact ⟨k + 1, by omega, by go_num, by rw [hO], hK⟩
            case measure => simp [intOf]; omega
        · obtain rfl : k = L.length := by omega
          rw [List.take_length, ← hback]
          clear hback
          have hDr := hD9.keptN hK
          have ho2 := open_any p D4 n wr hDr (by rw [hY.c]; omega) (by rw [hY.c]; omega) hn1 (by rw [hY.n]; exact hnN) hn2
          generalize D4.backE n = R at *
          have hrr : (R == R) = true := by simp
          by_cases hR0 : R = 0
          · have hR0' : (R == 0) = true := by simp [hR0]
            go_wp2_with (go_at_call 12; refine ho2.mono ?_; rintro e wz ⟨pv, rfl, hDz, hkz, h1, _⟩; obtain ⟨g', rfl, _, _⟩ := h1 hR0)
            go_ret
            exact ⟨rfl, (kpN (hK9.then hK) hkz hmw).grown⟩
          · have hR0' : (R == 0) = false := by simpa using hR0
            go_wp2_with (go_at_call 12; refine ho2.mono ?_; rintro e wz ⟨pv, rfl, hDz, hkz, _, h1⟩; obtain rfl := h1 hR0)
            go_ret
            exact ⟨rfl, (kpN (hK9.then hK) hkz hmw).grown⟩

end Go.Proofs.Ytgfijbbibafdfaa.pagerOpens
