/- Contract, over the turned program: the document's Check tells whether a program may be run, or what the first fault is. Conditions: those that each theorem states. -/
import Derived.Test.YtpoahegccjgnjaaGreatDoorQG
namespace Go.Proofs.YtpoahegccjgnjaaGreatDoor
open Go.RowKit
set_option linter.unusedVariables false

theorem upto_next {p : Nat → Bool} {k : Nat} (h : ∀ j, j < k → p j = true) (hk : p k = true) : ∀ j, j < k + 1 → p j = true := by
  intro j hj
  rcases Nat.lt_or_ge j k with h1 | h1
  · exact h j h1
  · obtain rfl : j = k := by omega
    exact hk
theorem rules_next {l : List In} {i : Nat} (h : ∀ i', i' < i → ∀ j, j < l.length → pk i' l j = true) (hk : ∀ j, j < l.length → pk i l j = true) : ∀ i', i' < i + 1 → ∀ j, j < l.length → pk i' l j = true := by
  intro j hj
  rcases Nat.lt_or_ge j i with h1 | h1
  · exact h j h1
  · obtain rfl : j = i := by omega
    exact hk

set_option maxRecDepth 100000 in
set_option maxHeartbeats 2000000 in
theorem qrcheck_any (v : Value) (l : List In) (w : World) (hT : Ins w v l) (hwf : ∀ x ∈ l, x.wf) :
    Calls Tryz.prog 19 #[v] w fun e w' => e = .returned (.tuple #[.int .i64 (chkI l).1, .int .i64 (chkI l).2]) ∧ w.grownBy w' none := by
  obtain ⟨a, c, rfl, h1, h2, h3⟩ := hT
  have hT : Ins w (.slice a l.length c) l := ⟨a, c, rfl, h1, h2, h3⟩
  have HT := hide hT
  have hlm : (l.length : Int) ≤ 9223372036854775807 := by unfold maxLen at h2; omega
  clear h1 h2 h3 hT
  obtain ⟨C, HC⟩ : ∃ C, Hid (chkI l = C) := ⟨_, rfl⟩
  rw [HC.out]
  by_cases h0 : l.length = 0
  · have hC : C = (1, 0) := by rw [← HC.out]; unfold chkI; rw [if_pos h0]
    have t0 : ((l.length : Int) == 0) = true := by simp [h0]
    subst hC
    clear h0
    go_enter Tryz.func19, Tryz.ntmps19
    go_wp2
    go_ret2
    exact ⟨rfl, World.grownBy.refl _ _⟩
  · have t0 : ((l.length : Int) == 0) = false := by rw [beq_eq_false_iff_ne]; omega
    have Hn : Hid (0 < l.length) := by show _ < _; omega
    by_cases h64 : (64 : Int) < (l.length : Int)
    · have hC : C = (3, 64) := by rw [← HC.out]; unfold chkI; rw [if_neg h0, if_pos (by omega)]
      subst hC
      clear h0
      go_enter Tryz.func19, Tryz.ntmps19
      go_wp2
      go_ret2
      exact ⟨rfl, World.grownBy.refl _ _⟩
    · have HA0 : Hid (∀ i', i' < 1 → ∀ j, j < l.length → pk i' l j = true) := by
        intro i' hi' j hj
        obtain rfl : i' = 0 := by omega
        exact decide_eq_true (by omega)
      clear h0
      go_enter Tryz.func19, Tryz.ntmps19
      go_wp2_with fail
      go_loopw [4] (fun t wr => ∃ k : Nat, k ≤ l.length ∧ t = .int .i64 k ∧ w.grownBy wr none ∧ Hid (∀ j, j < k → pk 1 l j = true)) (fun t _ => l.length - (intOf t).toNat)
      case atStart => exact ⟨0, Nat.zero_le _, rfl, World.grownBy.refl _ _, fun j hj => by omega⟩
      case round =>
        obtain ⟨k, hk, rfl, hg, Hk⟩ := hrel
        by_cases hlt : k < l.length
        · have hki : (k : Int) < (l.length : Int) := by omega
          obtain ⟨_, _, _, b, off, rfl, hb, hcs⟩ := (HT.out.keptN hg).at k hlt
          have hx : (l.getD k d0).wf := by rw [getD_at hlt]; exact hwf _ (List.getElem_mem hlt)
          have Hbad := hide (chk_bad l 1 (by omega) Hn.out HA0.out k hlt Hk.out)
          have Hnx : Hid (okI (l.getD k d0) = true → ∀ j, j < k + 1 → pk 1 l j = true) := fun h => upto_next Hk.out h
          rw [HC.out] at Hbad
          replace Hbad : Hid (okI (l.getD k d0) = false → C = (4, (k : Int))) := Hbad
          generalize l.getD k d0 = x at *
          obtain ⟨c0, c1, c2, c3, c4, c5, c6⟩ := cells7 hcs
          have HRr := hide (rright_any x)
          unfold In.val at HRr
          clear hcs
          cases hok : okI x with
          | true =>
            rw [hok] at HRr
            have Hs := hide (Hnx.out hok)
            clear hok
            go_wp2_with (go_at_call 51; refine (HRr.out _ hx).mono ?_; rintro e w2 ⟨rfl, hg2⟩)
            go_roundw
            case rel => exact ⟨k + 1, by omega, by go_num, grown_up hg hg2, Hs⟩
            case measure => simp [intOf]; omega
          | false =>
            rw [hok] at HRr
            have hC := Hbad.out hok
            subst hC
            clear hok
            go_wp2_with (go_at_call 51; refine (HRr.out _ hx).mono ?_; rintro e w2 ⟨rfl, hg2⟩)
            go_ret2
            exact ⟨rfl, grown_up hg hg2⟩
        · obtain rfl : k = l.length := by omega
          have HA1 : Hid (∀ i', i' < 2 → ∀ j, j < l.length → pk i' l j = true) := rules_next HA0.out Hk.out
          clear Hk hlt hk
          have hg1 := hg
          clear hg
          go_wp2_with fail
          go_loopw [5] (fun t wr => ∃ k : Nat, k ≤ l.length ∧ t = .int .i64 k ∧ w.grownBy wr none ∧ Hid (∀ j, j < k → pk 2 l j = true)) (fun t _ => l.length - (intOf t).toNat)
          case atStart => exact ⟨0, Nat.zero_le _, rfl, hg1, fun j hj => by omega⟩
          case round =>
            clear hg1
            obtain ⟨k, hk, rfl, hg, Hk⟩ := hrel
            by_cases hlt : k < l.length
            · have hki : (k : Int) < (l.length : Int) := by omega
              obtain ⟨_, _, _, b, off, rfl, hb, hcs⟩ := (HT.out.keptN hg).at k hlt
              have Hbad := hide (chk_bad l 2 (by omega) Hn.out HA1.out k hlt Hk.out)
              have Hnx : Hid (regOk (l.getD k d0) = true → ∀ j, j < k + 1 → pk 2 l j = true) := fun h => upto_next Hk.out h
              rw [HC.out] at Hbad
              replace Hbad : Hid (regOk (l.getD k d0) = false → C = (6, (k : Int))) := Hbad
              generalize l.getD k d0 = x at *
              obtain ⟨c0, c1, c2, c3, c4, c5, c6⟩ := cells7 hcs
              have HRr := hide (qrregs_any x)
              obtain ⟨R, HR⟩ : ∃ R, Hid (regsI x = R) := ⟨_, rfl⟩
              have HB2 : Hid (regOk x = R.all (fun r => decide (r < 6))) := by show _ = _; rw [← HR.out]; rfl
              rw [HR.out] at HRr
              unfold In.val at HRr
              clear hcs
              go_wp2_with (go_at_call 52; refine (HRr.out _).mono ?_; rintro e w2 ⟨v2, rfl, hS, hg2⟩; obtain ⟨a1, cp1, rfl, hl1, hm1, hS1⟩ := hS; have HL1 := hide hS1; have Hm1 := hide hm1; clear hS1 hm1)
              have hR31 : (R.length : Int) ≤ 9223372036854775807 := by have := Hm1.out; unfold maxLen at this; omega
              have hgg := grown_up hg hg2
              clear c0 c1 c2 c3 c4 c5 c6 hg hg2
              go_loopw [7] (fun t wr' => ∃ j : Nat, j ≤ R.length ∧ t = .int .i64 j ∧ wr' = w2 ∧ Hid (∀ q (hq : q < j), ∀ h : q < R.length, decide (R[q] < 6) = true)) (fun t _ => R.length - (intOf t).toNat)
              case atStart => exact ⟨0, Nat.zero_le _, rfl, rfl, fun q hq => by omega⟩
              case round =>
                obtain ⟨j, hj, rfl, rfl, Hq⟩ := hrel
                by_cases hlt' : j < R.length
                · obtain ⟨b1, o1, rfl, hb1, hcj⟩ := HL1.out j hlt'
                  have hji : (j : Int) < (R.length : Int) := by omega
                  by_cases h6 : R[j] < 6
                  · have Hs : Hid (∀ q (hq : q < j + 1), ∀ h : q < R.length, decide (R[q] < 6) = true) := by
                      intro q hq h
                      rcases Nat.lt_or_ge q j with h1 | h1
                      · exact Hq.out q h1 h
                      · obtain rfl : q = j := by omega
                        exact decide_eq_true h6
                    generalize R[j] = z at *
                    have t1 : ¬ (6 : Int) ≤ z := by omega
                    go_wp2
                    go_roundw
                    case rel => exact ⟨j + 1, by omega, by go_num, by trivial, Hs⟩
                    case measure => simp [intOf]; omega
                  · have hC := Hbad.out (by
                      rw [HB2.out, List.all_eq_false]
                      exact ⟨R[j], List.getElem_mem hlt', by simpa using Int.not_lt.1 h6⟩)
                    subst hC
                    generalize R[j] = z at *
                    have t1 : (6 : Int) ≤ z := by omega
                    clear h6
                    go_wp2
                    go_ret2
                    exact ⟨rfl, hgg⟩
                · obtain rfl : j = R.length := by omega
                  have Hs := hide (Hnx.out (by
                    rw [HB2.out, List.all_eq_true]
                    intro z hz
                    obtain ⟨q, hq, rfl⟩ := List.getElem_of_mem hz
                    exact Hq.out q hq hq))
                  go_wp2
                  go_roundw
                  case rel => exact ⟨k + 1, by omega, by go_num, hgg, Hs⟩
                  case measure => simp [intOf]; omega
            · obtain rfl : k = l.length := by omega
              have HA2 : Hid (∀ i', i' < 3 → ∀ j, j < l.length → pk i' l j = true) := rules_next HA1.out Hk.out
              clear Hk hlt hk
              have hg1 := hg
              clear hg
              go_wp2_with fail
              go_loopw [8] (fun t wr => ∃ k : Nat, k ≤ l.length ∧ t = .int .i64 k ∧ w.grownBy wr none ∧ Hid (∀ j, j < k → pk 3 l j = true)) (fun t _ => l.length - (intOf t).toNat)
              case atStart => exact ⟨0, Nat.zero_le _, rfl, hg1, fun j hj => by omega⟩
              case round =>
                clear hg1
                obtain ⟨k, hk, rfl, hg, Hk⟩ := hrel
                by_cases hlt : k < l.length
                · have hki : (k : Int) < (l.length : Int) := by omega
                  obtain ⟨_, _, _, b, off, rfl, hb, hcs⟩ := (HT.out.keptN hg).at k hlt
                  have Hbad := hide (chk_bad l 3 (by omega) Hn.out HA2.out k hlt Hk.out)
                  have Hnx : Hid (tgtOk l.length (l.getD k d0) = true → ∀ j, j < k + 1 → pk 3 l j = true) := fun h => upto_next Hk.out h
                  rw [HC.out] at Hbad
                  replace Hbad : Hid (tgtOk l.length (l.getD k d0) = false → C = (7, (k : Int))) := Hbad
                  generalize l.getD k d0 = x at *
                  obtain ⟨c0, c1, c2, c3, c4, c5, c6⟩ := cells7 hcs
                  have HG := hide (qrtarget_any x)
                  obtain ⟨T, HT'⟩ : ∃ T, Hid (tgI x = T) := ⟨_, rfl⟩
                  obtain ⟨H, HH⟩ : ∃ H, Hid (hasT x = H) := ⟨_, rfl⟩
                  rw [HT'.out, HH.out] at HG
                  have HB : Hid (tgtOk l.length x = (!H || decide (T < (l.length : Int)))) := by
                    show _ = _
                    unfold tgtOk
                    rw [HH.out]
                    cases H with
                    | false => rfl
                    | true => rw [← HT'.out]; unfold tgI; rw [HH.out]; rfl
                  unfold In.val at HG
                  rw [HB.out] at Hbad Hnx
                  clear hcs
                  cases H with
                  | false =>
                    have Hs := hide (Hnx.out rfl)
                    go_wp2_with (go_at_call 53; refine (HG.out _).mono ?_; rintro e w2 ⟨rfl, hg2⟩)
                    go_roundw
                    case rel => exact ⟨k + 1, by omega, by go_num, grown_up hg hg2, Hs⟩
                    case measure => simp [intOf]; omega
                  | true =>
                    by_cases ht : T < (l.length : Int)
                    · have Hs := hide (Hnx.out (by rw [decide_eq_true ht]; rfl))
                      have t1 : ¬ (l.length : Int) ≤ T := by omega
                      go_wp2_with (go_at_call 53; refine (HG.out _).mono ?_; rintro e w2 ⟨rfl, hg2⟩)
                      go_roundw
                      case rel => exact ⟨k + 1, by omega, by go_num, grown_up hg hg2, Hs⟩
                      case measure => simp [intOf]; omega
                    · have hC := Hbad.out (by rw [decide_eq_false ht]; rfl)
                      subst hC
                      have t1 : (l.length : Int) ≤ T := by omega
                      clear ht
                      go_wp2_with (go_at_call 53; refine (HG.out _).mono ?_; rintro e w2 ⟨rfl, hg2⟩)
                      go_ret2
                      exact ⟨rfl, grown_up hg hg2⟩
                · obtain rfl : k = l.length := by omega
                  have HA3 : Hid (∀ i', i' < 4 → ∀ j, j < l.length → pk i' l j = true) := rules_next HA2.out Hk.out
                  clear Hk hlt hk
                  obtain ⟨m, hm⟩ : ∃ m, l.length = m + 1 := ⟨l.length - 1, by have := Hn.out; omega⟩
                  obtain ⟨_, _, _, b, off, rfl, hb, hcs⟩ := (HT.out.keptN hg).at m (by omega)
                  have hpk : ∀ j, j < m → pk 4 l j = true := fun j hj => by show (decide (j + 1 < l.length) || _) = true; rw [decide_eq_true (by omega), Bool.true_or]
                  have Hp4 : Hid (pk 4 l m = endsI (l.getD m d0)) := by show (decide (m + 1 < l.length) || _) = _; rw [decide_eq_false (by omega), Bool.false_or]
                  have Hbad := hide (chk_bad l 4 (by omega) Hn.out HA3.out m (by omega) hpk)
                  have Hgood : Hid (pk 4 l m = true → C = (0, 0)) := by
                    intro h
                    rw [← HC.out]
                    refine chk_good l Hn.out (rules_next HA3.out (fun j hj => ?_))
                    rcases Nat.lt_or_ge j m with h1 | h1
                    · exact hpk j h1
                    · obtain rfl : j = m := by omega
                      exact h
                  rw [HC.out] at Hbad
                  replace Hbad : Hid (pk 4 l m = false → C = (13, (m : Int))) := Hbad
                  rw [Hp4.out] at Hbad Hgood
                  generalize l.getD m d0 = x at *
                  obtain ⟨c0, c1, c2, c3, c4, c5, c6⟩ := cells7 hcs
                  have HG := hide (qrends_any x)
                  have t1 : IntKind.i64.wrap ((l.length : Int) - 1) = (m : Int) := by rw [hm]; rw [IntKind.wrap_i64]; omega
                  have t2 : ((l.length : Int) - 1) = (m : Int) := by omega
                  have t3 : (m : Int) < (l.length : Int) := by omega
                  unfold In.val at HG
                  have Hm := hide hm
                  clear hcs hm
                  cases hE : endsI x with
                  | true =>
                    rw [hE] at HG
                    have hC := Hgood.out hE
                    subst hC
                    clear hE
                    go_wp2_with (go_at_call 54; refine (HG.out _).mono ?_; rintro e w2 ⟨rfl, hg2⟩)
                    go_ret2
                    exact ⟨rfl, grown_up hg hg2⟩
                  | false =>
                    rw [hE] at HG
                    have hC := Hbad.out hE
                    subst hC
                    clear hE
                    go_wp2_with (go_at_call 54; refine (HG.out _).mono ?_; rintro e w2 ⟨rfl, hg2⟩)
                    go_ret2
                    exact ⟨rfl, grown_up hg hg2⟩

end Go.Proofs.YtpoahegccjgnjaaGreatDoor
