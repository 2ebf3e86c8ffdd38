/- Contracts, over the turned program: a piece of work: Drop, Take, Head, Used. Conditions: those that each theorem states. -/
import Derived.Test.YtmnedhlgplkfhaaGreatSWo
namespace Go.Proofs.YtmnedhlgplkfhaaGreat
open Go.RowKit
set_option linter.unusedVariables false

theorem Ag.lens {P : List ByteArray} {NL : List (List Chg)} {S : Sw} (h : Ag P NL S) : 0 < P.length ∧ P.length ≤ 160 := ⟨by rw [h.a.len]; exact h.l0, by rw [h.a.len]; exact h.l1⟩
set_option maxRecDepth 100000 in
set_option maxHeartbeats 800000 in
theorem sdrop_any (r : Nat) (z : Int) (V : Nat → Prop) (c m : Nat) (S : Sw) (w : World) (H : Wk w r V c m S) (hm : m ≤ 5000) :
    Calls Tryz.prog 29 #[.pointer (some ⟨r, 0, none⟩), .int .i64 z] w fun e w' => e = .returned (.int .i64 (S.dropE z)) ∧ Wk w' r (fun b => V b ∨ w.heap.size ≤ b) c (m + 1) (S.drop z) ∧ Kp V w w' := by
  have HS : Hid (Wk w r (fun b => V b ∨ w.heap.size ≤ b) c (m + 1) S) := H.mono (fun _ _ h => .inl h) (by omega)
  rcases H with ⟨hov, c1, _⟩ | ⟨hov, gP, P, NL, hW, hA, hNm, hNl⟩
  · have e1 : S.dropE z = 13 := by unfold Sw.dropE; rw [hov]; rfl
    have e2 : S.drop z = S := by unfold Sw.drop; rw [e1]; rfl
    rw [e1, e2]
    have hr := srefusalOf_over r z w c1
    go_enter Tryz.func29, Tryz.ntmps29
    go_wp2_with (first
      | (go_at_call 52; refine hr.mono ?_; rintro e w' ⟨rfl, hw'⟩; obtain rfl := hw'.symm)
      | fail)
    go_ret
    exact ⟨rfl, HS.out, Kp.refl _ _⟩
  · have hr := srefusalOf_ok r gP V c P NL z w hW hA.lens.1 hA.lens.2 hA.sP
    rw [offB_there hA.a hA.l0] at hr
    cases ht : thereS S.now z with
    | false =>
      have e1 : S.dropE z = 7 := by unfold Sw.dropE; rw [hov, ht]; rfl
      have e2 : S.drop z = S := by unfold Sw.drop; rw [e1]; rfl
      rw [e1, e2]
      rw [ht] at hr
      clear hW hA
      go_enter Tryz.func29, Tryz.ntmps29
      go_wp2_with (first
        | (go_at_call 52; refine hr.mono ?_; rintro e w' ⟨rfl, hw'⟩; obtain rfl := hw'.symm)
        | fail)
      go_ret
      exact ⟨rfl, HS.out, Kp.refl _ _⟩
    | true =>
      rw [ht] at hr
      have e1 : S.dropE z = 0 := by unfold Sw.dropE; rw [hov, ht]; rfl
      obtain ⟨n, hzn, hn0, hn, hu⟩ := thereS_at ht
      subst hzn
      have e2 : S.drop (n : Int) = { S with now := turnL S.now n } := by unfold Sw.drop; rw [if_pos e1, Int.toNat_natCast]
      rw [e1, e2]
      have hl1 := hA.l1
      have htu := sturn_any r gP c n V P NL w hW (by omega) hA.lens.1 hA.lens.2 hA.sP (by omega) (fun l hl => Nat.le_trans (hNl l hl) (by omega)) hA.g.pg
      have HA2 : Hid (Ag (turnL P n) (chgN P NL 0) { S with now := turnL S.now n }) := by
        have hT : (turnS (pg0 P) n).size = 256 := by rw [turnS_size]; exact hA.sP
        exact hA.chg 0 (turnS (pg0 P) n) (turnL S.now n) hA.lens.1 (by omega) (hA.a.drop n hA.l0 hA.s0 (by omega) hu) (sizes_set hA.sz (by rw [turnS_size]; exact hA.s0))
      have HB2 : Hid ((chgN P NL 0).length ≤ m + 1 ∧ ∀ l ∈ chgN P NL 0, l.length ≤ m + 1) := ⟨by rw [chgN_len]; omega, chgN_bound hNl⟩
      have HOV : Hid (({ S with now := turnL S.now n } : Sw).over = false) := hov
      have HTU := hide htu
      clear hW hA hu ht e1 e2 htu
      go_enter Tryz.func29, Tryz.ntmps29
      go_wp2_with (first
        | (go_at_call 52; refine hr.mono ?_; rintro e w' ⟨rfl, hw'⟩; obtain rfl := hw'.symm)
        | (go_at_call 53; refine HTU.out.mono ?_; rintro e w2 ⟨rfl, hW2, hk2⟩)
        | fail)
      go_ret
      exact ⟨rfl, .inr ⟨HOV.out, gP, _, _, hW2, HA2.out, HB2.out.1, HB2.out.2⟩, hk2⟩
set_option maxRecDepth 100000 in
set_option maxHeartbeats 1600000 in
theorem stake_any (r : Nat) (V : Nat → Prop) (c m : Nat) (S : Sw) (w : World) (H : Wk w r V c m S) (hm : m ≤ 5000) :
    Calls Tryz.prog 27 #[.pointer (some ⟨r, 0, none⟩)] w fun e w' => e = .returned (.tuple #[.int .i64 S.takeE.1, .int .i64 S.takeE.2]) ∧ Wk w' r (fun b => V b ∨ w.heap.size ≤ b) c (m + 2) (S.take (fillB 0)) ∧ Kp V w w' := by
  have HS : Hid (Wk w r (fun b => V b ∨ w.heap.size ≤ b) c (m + 2) S) := H.mono (fun _ _ h => .inl h) (by omega)
  rcases H with ⟨hov, c1, _⟩ | ⟨hov, gP, P, NL, hW, hA, hNm, hNl⟩
  · have e1 : S.takeE = (0, 13) := by unfold Sw.takeE; rw [hov]; rfl
    have e2 : S.take (fillB 0) = S := by unfold Sw.take; rw [hov]; rfl
    rw [e1, e2]
    have hr := srefusal_over r w c1
    go_enter Tryz.func27, Tryz.ntmps27
    go_wp2_with (first
      | (go_at_call 43; refine hr.mono ?_; rintro e w' ⟨rfl, hw'⟩; obtain rfl := hw'.symm)
      | fail)
    go_ret2
    exact ⟨rfl, HS.out, Kp.refl _ _⟩
  · have hr := srefusal_ok r c w hW.c0 hW.c1
    obtain ⟨hl0, hl1⟩ := hA.lens
    have HU : Hid (∀ n, n < P.length → Calls Tryz.prog 44 #[.pointer (some ⟨r, 0, none⟩), .int .i64 (n : Int)] w fun e w' => e = .returned (.bool (isU S.now n)) ∧ w' = w) := fun n hn => by
      have h := sused_any r gP V c P NL (n : Int) w hW hl0 hl1 hA.sP
      have e : usedB P (n : Int) = isU S.now n := by
        unfold usedB
        rw [decide_eq_true ⟨by omega, by omega⟩, Bool.true_and, Int.toNat_natCast, hA.isU]
      rw [e] at h
      exact h
    have HNO : Hid ((∀ i, 0 < i → i < P.length → isU S.now i = true) → S.takeE = (0, 8) ∧ S.take (fillB 0) = S) := fun h => by
      have hf : S.free = none := by
        unfold Sw.free
        exact lowest_none _ _ _ (fun i hi hin => h i hi (by rw [hA.a.len]; omega))
      exact ⟨by unfold Sw.takeE; rw [hov, hf]; rfl, by unfold Sw.take; rw [hov, hf]; rfl⟩
    have HYES : Hid (∀ k, k < P.length → (∀ i, 0 < i → i < k → isU S.now i = true) → isU S.now k = false → 0 < k ∧ S.takeE = ((k : Int), 0) ∧ S.take (fillB 0) = { S with now := (turnL S.now k).set k (fillB 0) }) := fun k hk h hu => by
      have h0 : 0 < k := by
        rcases Nat.eq_zero_or_pos k with e | e
        · subst e; cases hu
        · exact e
      have hlen := hA.a.len
      have hf : S.free = some k := by
        unfold Sw.free
        exact lowest_some _ _ _ _ h0 (by omega) (fun i hi hik => h i hi hik) hu
      exact ⟨h0, by unfold Sw.takeE; rw [hov, hf]; rfl, by unfold Sw.take; rw [hov, hf]; rfl⟩
    have HTU : Hid (∀ k, k < P.length → 0 < k → Calls Tryz.prog 53 #[.pointer (some ⟨r, 0, none⟩), .int .i64 (k : Int)] w fun e w' => e = .returned (.tuple #[]) ∧ Wm w' r gP (fun b => V b ∨ w.heap.size ≤ b) c (turnL P k) (chgN P NL 0) ∧ Kp V w w') := fun k hk h0 =>
      sturn_any r gP c k V P NL w hW (by omega) hl0 hl1 hA.sP (by omega) (fun l hl => Nat.le_trans (hNl l hl) (by omega)) hA.g.pg
    have hpg0 : (P.getD 0 ⟨#[]⟩).size ≤ 256 := getD_size hA.ps 0
    have hg1 := hA.g.chg 0 (turnS (pg0 P) 0) hl0 hpg0
    have HG1 : Hid (∀ k, AgN (turnL P k) (chgN P NL 0) S) := fun k => hA.g.chg 0 (turnS (pg0 P) k) hl0 hpg0
    have HCH : Hid (∀ k (w1 : World) (V' : Nat → Prop), k < P.length → Wm w1 r gP V' c (turnL P k) (chgN P NL 0) → Calls Tryz.prog 54 #[.pointer (some ⟨r, 0, none⟩), .int .i64 (k : Int), .string (fillB 0)] w1 fun e w' => e = .returned (.tuple #[]) ∧ Wm w' r gP (fun b => V' b ∨ w1.heap.size ≤ b) c ((turnL P k).set k (fillB 0)) (chgN (turnL P k) (chgN P NL 0) k) ∧ Kp V' w1 w') := fun k w1 V' hk hW1 =>
      schange_any r gP c k V' (turnL P k) (chgN P NL 0) (fillB 0) w1 hW1 (by rw [turnL_len]; exact hk) (by rw [turnL_len]; exact hl1) (by rw [chgN_len]; omega) (fun l hl => Nat.le_trans (chgN_bound hNl l hl) (by omega)) (HG1.out k).pg
    have HA2 : Hid (∀ k, k < P.length → 0 < k → Ag ((turnL P k).set k (fillB 0)) (chgN (turnL P k) (chgN P NL 0) k) { S with now := (turnL S.now k).set k (fillB 0) }) := fun k hk h0 => by
      have hlen := hA.a.len
      have hT : ∀ x ∈ turnL P k, x.size ≤ 256 := psizes_set hA.ps (by rw [turnS_size, hA.sP]; exact Nat.le_refl _)
      have hg2 := (HG1.out k).chg k (fillB 0) (by rw [turnL_len]; exact hk) (getD_size hT k)
      have hsz : ∀ x ∈ turnL S.now k, x.size = 256 := sizes_set hA.sz (by rw [turnS_size]; exact hA.s0)
      have hl : ((turnL S.now k).set k (fillB 0)).length = S.now.length := by rw [List.length_set, turnL_len]
      exact ⟨hA.a.take k (fillB 0) hA.l0 hA.s0 (by omega) h0 hA.l1, ⟨hg2.n, hg2.b, hg2.pg, hg2.sz⟩, by show 0 < ((turnL S.now k).set k (fillB 0)).length; rw [hl]; exact hA.l0, by show ((turnL S.now k).set k (fillB 0)).length ≤ 160; rw [hl]; exact hA.l1, sizes_set hsz (fillB_size 0), psizes_set hT (Nat.le_of_eq (fillB_size 0)), by show S.base.length = ((turnL S.now k).set k (fillB 0)).length; rw [hl]; exact hA.bl, hA.nt⟩
    have HB2 : Hid (∀ k, (chgN (turnL P k) (chgN P NL 0) k).length ≤ m + 2 ∧ ∀ l ∈ chgN (turnL P k) (chgN P NL 0) k, l.length ≤ m + 2) := fun k => ⟨by rw [chgN_len, chgN_len]; omega, chgN_bound (chgN_bound hNl)⟩
    obtain ⟨cN, c2, _⟩ := hW.c2
    obtain ⟨Z, HZ⟩ : ∃ Z, Hid (fillB 0 = Z) := ⟨_, rfl⟩
    have HZR : Hid (∀ w1 : World, Calls Tryz.prog 55 #[.int .i64 256] w1 fun e w' => e = .returned (.string Z) ∧ Kp none' w1 w') := fun w1 => by
      have := szeros_any 256 w1 (by omega)
      rw [zeroB_fill, HZ.out] at this
      exact this
    rw [HZ.out] at HNO HYES HCH HA2 ⊢
    obtain ⟨ln, HL⟩ : ∃ ln, Hid (P.length = ln) := ⟨_, rfl⟩
    rw [HL.out] at c2 HU HNO HYES HTU HCH HA2
    have hl1' : ln ≤ 160 := by rw [← HL.out]; exact hl1
    have HOV := hide hov
    clear hW hA hg1 hpg0 hl0 hl1 hov HG1
    go_enter Tryz.func27, Tryz.ntmps27
    go_wp2_with (first
      | (go_at_call 43; refine hr.mono ?_; rintro e w' ⟨rfl, hw'⟩; obtain rfl := hw'.symm)
      | fail)
    go_loopw [16] (fun t wr => w = wr ∧ ∃ k : Nat, k ≤ ln ∧ t = .int .i64 k ∧ Hid (∀ i, 0 < i → i < k → isU S.now i = true)) (fun t _ => ln - (intOf t).toNat)
    case atStart => exact ⟨rfl, 0, Nat.zero_le _, rfl, fun i _ h => by omega⟩
    case round =>
      obtain ⟨rfl, k, hk, rfl, hall⟩ := hrel
      by_cases hlt : k < ln
      · have hki : (k : Int) < (ln : Int) := by omega
        have hu := HU.out k hlt
        cases hU : isU S.now k with
        | true =>
          rw [hU] at hu
          have HALL : Hid (∀ i, 0 < i → i < k + 1 → isU S.now i = true) := fun i h0 h1 => by
            by_cases e : i = k
            · subst e; exact hU
            · exact hall.out i h0 (by omega)
          clear hU
          go_wp2_with (first
            | (go_at_call 44; refine hu.mono ?_; rintro e w' ⟨rfl, hw'⟩; obtain rfl := hw'.symm)
            | fail)
          go_roundw
          case rel => exact ⟨by first | trivial | rfl, k + 1, by omega, by go_num, HALL⟩
          case measure => simp [intOf]; omega
        | false =>
          rw [hU] at hu
          obtain ⟨h0, e1, e2⟩ := HYES.out k hlt hall.out hU
          have HE2 := hide e2
          have HE1 := hide e1
          have htu := hide (HTU.out k hlt h0)
          clear hU e1 e2
          go_wp2_with (first
            | (go_at_call 44; refine hu.mono ?_; rintro e w' ⟨rfl, hw'⟩; obtain rfl := hw'.symm)
            | (go_at_call 53; refine htu.out.mono ?_; rintro e w1 ⟨rfl, hW1, hk1⟩)
            | (go_at_call 55; refine (HZR.out _).mono ?_; rintro e w2 ⟨rfl, hk2⟩)
            | (go_at_call 54; refine (HCH.out k w2 _ hlt (hW1.keptN hk2)).mono ?_; rintro e w3 ⟨rfl, hW3, hk3⟩)
            | fail)
          go_ret2
          refine ⟨by rw [HE1.out]; rfl, ?_, ?_⟩
          · rw [HE2.out]
            exact .inr ⟨HOV.out, gP, _, _, hW3.mono (fun b _ h => by
              rcases h with (h | h) | h
              · exact .inl h
              · exact .inr h
              · exact .inr (by have := hk1.size; have := hk2.size; omega)), HA2.out k hlt h0, (HB2.out k).1, (HB2.out k).2⟩
          · exact (hk1.thenN hk2).trans hk3 (fun _ _ h => h) (fun b hb h => by
              rcases h with h | h
              · exact h
              · omega)
      · obtain rfl : k = ln := by omega
        obtain ⟨e1, e2⟩ := HNO.out hall.out
        have HE2 := hide e2
        have HE1 := hide e1
        clear e1 e2
        go_wp2
        go_ret2
        exact ⟨by rw [HE1.out]; rfl, by rw [HE2.out]; exact HS.out, Kp.refl _ _⟩
set_option maxRecDepth 100000 in
set_option maxHeartbeats 800000 in
theorem shead_any (r : Nat) (V : Nat → Prop) (c m : Nat) (S : Sw) (w : World) (H : Wk w r V c m S) :
    Calls Tryz.prog 14 #[.pointer (some ⟨r, 0, none⟩)] w fun e w' => e = .returned (.string S.head) ∧ w' = w := by
  rcases H with ⟨hov, c1, _⟩ | ⟨hov, gP, P, NL, hW, hA, hNm, hNl⟩
  · have e1 : S.head = ⟨#[]⟩ := by unfold Sw.head; rw [hov]; rfl
    rw [e1]
    have hr := srefusal_over r w c1
    go_enter Tryz.func14, Tryz.ntmps14
    go_wp2_with (first
      | (go_at_call 43; refine hr.mono ?_; rintro e w' ⟨rfl, hw'⟩; obtain rfl := hw'.symm)
      | fail)
    go_ret
    exact ⟨rfl, rfl⟩
  · have hr := srefusal_ok r c w hW.c0 hW.c1
    obtain ⟨hl0, hl1⟩ := hA.lens
    obtain ⟨cN, c2, _⟩ := hW.c2
    have d0 := (hW.pageAt 0 hl0).1
    have e0 : P.getD 0 ⟨#[]⟩ = pg0 S.now := hA.p0
    rw [e0] at d0
    have hs := hA.s0
    have e1 : S.head = ⟨((pg0 S.now).data.toList.drop 20).toArray⟩ := by unfold Sw.head; rw [hov]; rfl
    rw [e1]
    obtain ⟨p, HP⟩ : ∃ p, Hid (pg0 S.now = p) := ⟨_, rfl⟩
    rw [HP.out] at d0 hs ⊢
    have hli : (0 : Int) < (P.length : Int) := by omega
    obtain ⟨ln, HL⟩ : ∃ ln, Hid (P.length = ln) := ⟨_, rfl⟩
    rw [HL.out] at c2 hli
    have HX : Hid (p.extract 20 256 = ⟨(p.data.toList.drop 20).toArray⟩) := by
      have hl : p.data.toList.length = 256 := by rw [Array.length_toList]; exact hs
      show _ = _
      have e : (p.extract 20 256).data.toList = p.data.toList.drop 20 := by
        rw [ext_list, List.take_of_length_le (by rw [List.length_drop, hl]; omega)]
      rw [← e]
    clear hW hA e1
    go_enter Tryz.func14, Tryz.ntmps14
    go_wp2_with (first
      | (go_at_call 43; refine hr.mono ?_; rintro e w' ⟨rfl, hw'⟩; obtain rfl := hw'.symm)
      | fail)
    go_ret
    exact ⟨by rw [← HX.out]; rfl, rfl⟩
set_option maxRecDepth 100000 in
set_option maxHeartbeats 800000 in
theorem susedN_any (r : Nat) (V : Nat → Prop) (c m : Nat) (S : Sw) (w : World) (H : Wk w r V c m S) :
    Calls Tryz.prog 12 #[.pointer (some ⟨r, 0, none⟩)] w fun e w' => e = .returned (.int .i64 (S.usedN : Int)) ∧ w' = w := by
  rcases H with ⟨hov, c1, _⟩ | ⟨hov, gP, P, NL, hW, hA, hNm, hNl⟩
  · have e1 : S.usedN = 0 := by unfold Sw.usedN; rw [hov]; rfl
    rw [e1]
    have hr := srefusal_over r w c1
    go_enter Tryz.func12, Tryz.ntmps12
    go_wp2_with (first
      | (go_at_call 43; refine hr.mono ?_; rintro e w' ⟨rfl, hw'⟩; obtain rfl := hw'.symm)
      | fail)
    go_ret
    exact ⟨rfl, rfl⟩
  · have hr := srefusal_ok r c w hW.c0 hW.c1
    obtain ⟨hl0, hl1⟩ := hA.lens
    have HU : Hid (∀ n, n < P.length → Calls Tryz.prog 44 #[.pointer (some ⟨r, 0, none⟩), .int .i64 (n : Int)] w fun e w' => e = .returned (.bool (isU S.now n)) ∧ w' = w) := fun n hn => by
      have h := sused_any r gP V c P NL (n : Int) w hW hl0 hl1 hA.sP
      have e : usedB P (n : Int) = isU S.now n := by
        unfold usedB
        rw [decide_eq_true ⟨by omega, by omega⟩, Bool.true_and, Int.toNat_natCast, hA.isU]
      rw [e] at h
      exact h
    obtain ⟨cN, c2, _⟩ := hW.c2
    have HE : Hid (S.usedN = ((List.range P.length).filter (isU S.now)).length) := by show _ = _; unfold Sw.usedN; rw [hov, hA.a.len]; rfl
    obtain ⟨ln, HL⟩ : ∃ ln, Hid (P.length = ln) := ⟨_, rfl⟩
    rw [HL.out] at c2 HU HE hl1
    rw [HE.out]
    clear hW hA hl0 hov
    go_enter Tryz.func12, Tryz.ntmps12
    go_wp2_with (first
      | (go_at_call 43; refine hr.mono ?_; rintro e w' ⟨rfl, hw'⟩; obtain rfl := hw'.symm)
      | fail)
    go_loopw [3, 13] (fun u t wr => w = wr ∧ ∃ k : Nat, k ≤ ln ∧ t = .int .i64 k ∧ ∃ q : Nat, u = .int .i64 q ∧ q ≤ k ∧ Hid (((List.range k).filter (isU S.now)).length = q)) (fun _ t _ => ln - (intOf t).toNat)
    case atStart => exact ⟨rfl, 0, Nat.zero_le _, rfl, 0, rfl, Nat.le_refl _, by show _ = _; simp⟩
    case round =>
      obtain ⟨rfl, k, hk, rfl, q, rfl, hqk, hq⟩ := hrel
      by_cases hlt : k < ln
      · have hki : (k : Int) < (ln : Int) := by omega
        have hiu := HU.out k hlt
        have HM : Hid (((List.range (k + 1)).filter (isU S.now)).length = q + (if isU S.now k then 1 else 0)) := by
          show _ = _
          rw [List.range_succ, List.filter_append, List.length_append, hq.out]
          cases hx : isU S.now k <;> simp [hx]
        cases hu : isU S.now k with
        | true =>
          rw [hu] at hiu HM
          have HM2 : Hid (((List.range (k + 1)).filter (isU S.now)).length = q + 1) := HM
          clear hq hu HM
          go_wp2_with (first
            | (go_at_call 44; refine hiu.mono ?_; rintro e w' ⟨rfl, hw'⟩; obtain rfl := hw'.symm)
            | fail)
          go_roundw
          case rel => exact ⟨by first | trivial | rfl, k + 1, by omega, by go_num, q + 1, by go_num, by omega, HM2⟩
          case measure => simp [intOf]; omega
        | false =>
          rw [hu] at hiu HM
          have HM2 : Hid (((List.range (k + 1)).filter (isU S.now)).length = q) := HM
          clear hq hu HM
          go_wp2_with (first
            | (go_at_call 44; refine hiu.mono ?_; rintro e w' ⟨rfl, hw'⟩; obtain rfl := hw'.symm)
            | fail)
          go_roundw
          case rel => exact ⟨by first | trivial | rfl, k + 1, by omega, by go_num, q, rfl, by omega, HM2⟩
          case measure => simp [intOf]; omega
      · have hkl : ln = k := by omega
        subst hkl
        go_wp2
        go_ret
        exact ⟨by rw [hq.out]; rfl, rfl⟩

end Go.Proofs.YtmnedhlgplkfhaaGreat
