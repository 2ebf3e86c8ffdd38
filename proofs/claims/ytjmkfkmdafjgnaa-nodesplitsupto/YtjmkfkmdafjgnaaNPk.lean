/- Contracts, over the turned program: where a row of sizes is split. Conditions: those that each theorem states. -/
import Derived.Test.YtjmkfkmdafjgnaaNPa
namespace Go.Proofs.Ytjmkfkmdafjgnaa
open Go Go.RowKit
set_option linter.unusedVariables false

theorem sum_taken {α : Type} (f : α → Nat) (l : List α) (j : Nat) (h : j < l.length) : ((l.take (j + 1)).map f).sum = ((l.take j).map f).sum + f l[j] := by
  rw [List.take_succ_eq_append_getElem h, List.map_append, List.sum_append]; simp
theorem sum_takenle {α : Type} (f : α → Nat) (l : List α) (j : Nat) : ((l.take j).map f).sum ≤ (l.map f).sum := by
  conv => rhs; rw [← List.take_append_drop j l, List.map_append, List.sum_append]
  exact Nat.le_add_right _ _

set_option maxRecDepth 100000 in
set_option maxHeartbeats 1000000 in
theorem halfP (v : Value) (l : List Pr) (B : Nat) (w : World) (hP : Prs B w v l) (hl : 1 < l.length) (hs : (l.map Pr.size).sum ≤ 4194304) (hlen : l.length ≤ 4194304) (M : Int) (hM : M = ((l.length - 1 : Nat) : Int)) (at_ : Nat) (hA : splG (fun j => Pr.size (l.getD j ⟨⟨#[]⟩, ⟨#[]⟩⟩)) (l.map Pr.size).sum (l.length - 1) l.length 1 (Pr.size (l.getD 0 ⟨⟨#[]⟩, ⟨#[]⟩⟩)) = at_) :
    Calls Try.prog 58 #[v, .int .i64 M, .func (.func 32) #[] #[]] w fun e w' => e = .returned (.int .i64 (at_ : Int)) ∧ Kp none' w w' := by
  have hP' := hP
  obtain ⟨a, c, rfl, hlc, hcm, ha⟩ := hP'
  unfold maxLen at hcm
  have HA := hide ha
  clear ha
  obtain ⟨lim, HLIM⟩ : ∃ lim, Hid (l.length - 1 = lim) := ⟨_, rfl⟩
  rw [HLIM.out] at hM hA
  subst hM
  obtain ⟨all, HALL⟩ : ∃ q, Hid ((l.map Pr.size).sum = q) := ⟨(l.map Pr.size).sum, hide rfl⟩
  rw [HALL.out] at hs hA
  have HSM : Hid (∀ W : World, Kp none' w W → Calls Try.prog 31 #[.slice a l.length c, .func (.func 32) #[] #[]] W fun e w' => e = .returned (.int .i64 (all : Int)) ∧ Kp none' W w') := by
    intro W hk
    have := sumP_any _ l B W (hP.keptN hk)
    rw [HALL.out, show wrap64 (all : Int) = (all : Int) by unfold wrap64; omega] at this
    exact this
  have HSPL : Hid (splG (fun j => Pr.size (l.getD j ⟨⟨#[]⟩, ⟨#[]⟩⟩)) all lim l.length 1 (((l.take 1).map Pr.size).sum) = at_) := by
    show _ = _
    have h0 : 0 < l.length := by omega
    have e : (((l.take 1).map Pr.size).sum) = Pr.size (l.getD 0 ⟨⟨#[]⟩, ⟨#[]⟩⟩) := by
      rw [show (1 : Nat) = 0 + 1 from rfl, sum_taken Pr.size l 0 h0, List.getD_eq_getElem?_getD, List.getElem?_eq_getElem h0]
      simp
    rw [e]
    exact hA
  have hl1 : 1 ≤ lim := by have := HLIM.out; omega
  have hll : lim ≤ l.length := by have := HLIM.out; omega
  clear hA hP hl
  go_enter Try.func58, Try.ntmps58
  go_wp2_with (first
    | (go_at_call 31; refine (HSM.out _ (Kp.refl _ _)).mono ?_; rintro e w1 ⟨rfl, hK1⟩)
    | fail)
  go_loopw [8, 9] (fun t u wr => ∃ i part f : Nat, 1 ≤ i ∧ i ≤ lim ∧ u = .int .i64 i ∧ t = .int .i64 part ∧ Hid (part = ((l.take (i - 1)).map Pr.size).sum) ∧ Hid (splG (fun j => Pr.size (l.getD j ⟨⟨#[]⟩, ⟨#[]⟩⟩)) all lim f i (((l.take i).map Pr.size).sum) = at_) ∧ Hid (lim < i + f) ∧ Kp none' w1 wr) (fun _ u _ => lim - (intOf u).toNat)
  case atStart => exact ⟨1, 0, l.length, Nat.le_refl _, hl1, rfl, rfl, (by show _ = _; simp), HSPL, (by show _ < _; omega), Kp.refl _ _⟩
  case round =>
    obtain ⟨i, part, f, hi1, hil, rfl, rfl, HP, HG, HF, hK⟩ := hrel
    by_cases hlt : i < lim
    · obtain ⟨i0, HI0⟩ : ∃ q : Nat, Hid (i = q + 1) := ⟨i - 1, by show _ = _; omega⟩
      have hi0 : i0 < l.length := by have := HI0.out; omega
      have hin : i < l.length := by omega
      obtain ⟨b, o, rfl, _, hc', hd'⟩ := HA.out i0 hi0
      have hc := (hK1.thenN hK).cell hc' (fun h => h)
      have hd := (hK1.thenN hK).cell hd' (fun h => h)
      clear hc' hd'
      have hlt' : (i : Int) < (lim : Int) := by omega
      have hw0 : IntKind.i64.wrap ((i : Int) - 1) = (i0 : Int) := by have := HI0.out; rw [IntKind.wrap_i64]; omega
      have hi0' : (i0 : Int) < (l.length : Int) := by omega
      have HT : Hid (((l.take i).map Pr.size).sum = part + Pr.size l[i0]) := by
        show _ = _
        have e1 : i - 1 = i0 := by have := HI0.out; omega
        rw [HP.out, HI0.out, Nat.add_sub_cancel, sum_taken Pr.size l i0 hi0]
      have HB : Hid (part + Pr.size l[i0] ≤ 4194304) := by
        show _ ≤ _
        rw [← HT.out]
        have := sum_takenle Pr.size l i
        have := HALL.out
        omega
      obtain ⟨s, HS⟩ : ∃ s, Hid (Pr.size l[i0] = s) := ⟨Pr.size l[i0], hide rfl⟩
      rw [HS.out] at HT HB
      have HSZ : Hid (∀ W : World, Calls Try.prog 32 #[.agg #[.string l[i0].k, .string l[i0].v]] W fun e w' => e = .returned (.int .i64 (s : Int)) ∧ Kp none' W w') := by
        intro W
        have := pairSize_any l[i0] W
        rw [HS.out, show wrap64 (s : Int) = (s : Int) by have := HB.out; unfold wrap64; omega] at this
        exact this
      generalize l[i0] = y at *
      obtain ⟨p2, HP2⟩ : ∃ q : Nat, Hid (part + s = q) := ⟨_, rfl⟩
      have hw1 : wrap64 ((part : Int) + (s : Int)) = (p2 : Int) := by have := HB.out; have := HP2.out; unfold wrap64; omega
      have hw1' : IntKind.i64.wrap ((part : Int) + (s : Int)) = (p2 : Int) := by have := HB.out; have := HP2.out; rw [IntKind.wrap_i64]; omega
      obtain ⟨p3, HP3⟩ : ∃ q : Nat, Hid (2 * p2 = q) := ⟨_, rfl⟩
      have hw2 : wrap64 (2 * (p2 : Int)) = (p3 : Int) := by have := HB.out; have := HP2.out; have := HP3.out; unfold wrap64; omega
      have hw2' : IntKind.i64.wrap (2 * (p2 : Int)) = (p3 : Int) := by have := HB.out; have := HP2.out; have := HP3.out; rw [IntKind.wrap_i64]; omega
      rw [HT.out, HP2.out] at HG
      by_cases hge : all ≤ p3
      · have hge' : (all : Int) ≤ (p3 : Int) := by omega
        have HR : Hid (i = at_) := by
          show _ = _
          rw [← HG.out]
          cases f with
          | zero => rfl
          | succ f => rw [splG, if_neg (by have := HP3.out; omega)]
        clear HG HP HT HB hge
        go_wp2_with (first
          | (go_at_call 32; refine (HSZ.out _).mono ?_; rintro e w3 ⟨rfl, hK3⟩)
          | fail)
        go_ret
        rw [← HR.out]
        exact ⟨rfl, hK1.thenN (hK.thenN hK3)⟩
      · have hge' : ¬ (all : Int) ≤ (p3 : Int) := by omega
        obtain ⟨f', Hf⟩ : ∃ f', Hid (f = f' + 1) := ⟨f - 1, by have := HF.out; show _ = _; omega⟩
        have HG2 : Hid (splG (fun j => Pr.size (l.getD j ⟨⟨#[]⟩, ⟨#[]⟩⟩)) all lim f' (i + 1) (((l.take (i + 1)).map Pr.size).sum) = at_) := by
          show _ = _
          have e2 := HG.out
          rw [Hf.out, splG, if_pos (by have := HP3.out; omega)] at e2
          rw [← e2, sum_taken Pr.size l i hin, HT.out, HP2.out, List.getD_eq_getElem?_getD, List.getElem?_eq_getElem hin]
          rfl
        have HPn : Hid (p2 = ((l.take (i + 1 - 1)).map Pr.size).sum) := by
          show _ = _
          rw [Nat.add_sub_cancel, HT.out, HP2.out]
        have HFn : Hid (lim < i + 1 + f') := by have := HF.out; have := Hf.out; show _ < _; omega
        clear HG HP HT HB hge
        go_wp2_with (first
          | (go_at_call 32; refine (HSZ.out _).mono ?_; rintro e w3 ⟨rfl, hK3⟩)
          | fail)
        go_roundw
        case rel => exact ⟨i + 1, p2, f', by omega, by omega, by go_num, by first | rfl | rw [hw1] | rw [hw1'], HPn, HG2, HFn, hK.thenN hK3⟩
        case measure => simp [intOf]; omega
    · have hlt' : ¬ (i : Int) < (lim : Int) := by omega
      have HR : Hid (lim = at_) := by
        show _ = _
        rw [← HG.out]
        cases f with
        | zero => show lim = i; omega
        | succ f => rw [splG, if_neg (by omega)]; omega
      clear HG HP
      go_wp2
      go_ret
      rw [← HR.out]
      exact ⟨rfl, hK1.thenN hK⟩

set_option maxRecDepth 100000 in
set_option maxHeartbeats 1000000 in
theorem halfK (v : Value) (l : List ByteArray) (B : Nat) (w : World) (hP : Sl Value.string B w v l) (hl : 2 < l.length) (hs : (l.map kSize).sum ≤ 4194304) (hlen : l.length ≤ 4194304) (M : Int) (hM : M = ((l.length - 2 : Nat) : Int)) (at_ : Nat) (hA : splG (fun j => kSize (l.getD j ⟨#[]⟩)) (l.map kSize).sum (l.length - 2) l.length 1 (kSize (l.getD 0 ⟨#[]⟩)) = at_) :
    Calls Try.prog 59 #[v, .int .i64 M, .func (.func 34) #[] #[]] w fun e w' => e = .returned (.int .i64 (at_ : Int)) ∧ Kp none' w w' := by
  have hP' := hP
  obtain ⟨a, c, rfl, hlc, hcm, ha⟩ := hP'
  unfold maxLen at hcm
  have HA := hide ha
  clear ha
  obtain ⟨lim, HLIM⟩ : ∃ lim, Hid (l.length - 2 = lim) := ⟨_, rfl⟩
  rw [HLIM.out] at hM hA
  subst hM
  obtain ⟨all, HALL⟩ : ∃ q, Hid ((l.map kSize).sum = q) := ⟨(l.map kSize).sum, hide rfl⟩
  rw [HALL.out] at hs hA
  have HSM : Hid (∀ W : World, Kp none' w W → Calls Try.prog 33 #[.slice a l.length c, .func (.func 34) #[] #[]] W fun e w' => e = .returned (.int .i64 (all : Int)) ∧ Kp none' W w') := by
    intro W hk
    have := sumK_any _ l B W (hP.keptN hk)
    rw [HALL.out, show wrap64 (all : Int) = (all : Int) by unfold wrap64; omega] at this
    exact this
  have HSPL : Hid (splG (fun j => kSize (l.getD j ⟨#[]⟩)) all lim l.length 1 (((l.take 1).map kSize).sum) = at_) := by
    show _ = _
    have h0 : 0 < l.length := by omega
    have e : (((l.take 1).map kSize).sum) = kSize (l.getD 0 ⟨#[]⟩) := by
      rw [show (1 : Nat) = 0 + 1 from rfl, sum_taken kSize l 0 h0, List.getD_eq_getElem?_getD, List.getElem?_eq_getElem h0]
      simp
    rw [e]
    exact hA
  have hl1 : 1 ≤ lim := by have := HLIM.out; omega
  have hll : lim ≤ l.length := by have := HLIM.out; omega
  clear hA hP hl
  go_enter Try.func59, Try.ntmps59
  go_wp2_with (first
    | (go_at_call 33; refine (HSM.out _ (Kp.refl _ _)).mono ?_; rintro e w1 ⟨rfl, hK1⟩)
    | fail)
  go_loopw [8, 9] (fun t u wr => ∃ i part f : Nat, 1 ≤ i ∧ i ≤ lim ∧ u = .int .i64 i ∧ t = .int .i64 part ∧ Hid (part = ((l.take (i - 1)).map kSize).sum) ∧ Hid (splG (fun j => kSize (l.getD j ⟨#[]⟩)) all lim f i (((l.take i).map kSize).sum) = at_) ∧ Hid (lim < i + f) ∧ Kp none' w1 wr) (fun _ u _ => lim - (intOf u).toNat)
  case atStart => exact ⟨1, 0, l.length, Nat.le_refl _, hl1, rfl, rfl, (by show _ = _; simp), HSPL, (by show _ < _; omega), Kp.refl _ _⟩
  case round =>
    obtain ⟨i, part, f, hi1, hil, rfl, rfl, HP, HG, HF, hK⟩ := hrel
    by_cases hlt : i < lim
    · obtain ⟨i0, HI0⟩ : ∃ q : Nat, Hid (i = q + 1) := ⟨i - 1, by show _ = _; omega⟩
      have hi0 : i0 < l.length := by have := HI0.out; omega
      have hin : i < l.length := by omega
      obtain ⟨b, o, rfl, _, hc'⟩ := HA.out i0 hi0
      have hc := (hK1.thenN hK).cell hc' (fun h => h)
      clear hc'
      have hlt' : (i : Int) < (lim : Int) := by omega
      have hw0 : IntKind.i64.wrap ((i : Int) - 1) = (i0 : Int) := by have := HI0.out; rw [IntKind.wrap_i64]; omega
      have hi0' : (i0 : Int) < (l.length : Int) := by omega
      have HT : Hid (((l.take i).map kSize).sum = part + kSize l[i0]) := by
        show _ = _
        have e1 : i - 1 = i0 := by have := HI0.out; omega
        rw [HP.out, HI0.out, Nat.add_sub_cancel, sum_taken kSize l i0 hi0]
      have HB : Hid (part + kSize l[i0] ≤ 4194304) := by
        show _ ≤ _
        rw [← HT.out]
        have := sum_takenle kSize l i
        have := HALL.out
        omega
      obtain ⟨s, HS⟩ : ∃ s, Hid (kSize l[i0] = s) := ⟨kSize l[i0], hide rfl⟩
      rw [HS.out] at HT HB
      have HSZ : Hid (∀ W : World, Calls Try.prog 34 #[.string l[i0]] W fun e w' => e = .returned (.int .i64 (s : Int)) ∧ Kp none' W w') := by
        intro W
        have := keySize_any l[i0] W
        rw [HS.out, show wrap64 (s : Int) = (s : Int) by have := HB.out; unfold wrap64; omega] at this
        exact this
      generalize l[i0] = y at *
      obtain ⟨p2, HP2⟩ : ∃ q : Nat, Hid (part + s = q) := ⟨_, rfl⟩
      have hw1 : wrap64 ((part : Int) + (s : Int)) = (p2 : Int) := by have := HB.out; have := HP2.out; unfold wrap64; omega
      have hw1' : IntKind.i64.wrap ((part : Int) + (s : Int)) = (p2 : Int) := by have := HB.out; have := HP2.out; rw [IntKind.wrap_i64]; omega
      obtain ⟨p3, HP3⟩ : ∃ q : Nat, Hid (2 * p2 = q) := ⟨_, rfl⟩
      have hw2 : wrap64 (2 * (p2 : Int)) = (p3 : Int) := by have := HB.out; have := HP2.out; have := HP3.out; unfold wrap64; omega
      have hw2' : IntKind.i64.wrap (2 * (p2 : Int)) = (p3 : Int) := by have := HB.out; have := HP2.out; have := HP3.out; rw [IntKind.wrap_i64]; omega
      rw [HT.out, HP2.out] at HG
      by_cases hge : all ≤ p3
      · have hge' : (all : Int) ≤ (p3 : Int) := by omega
        have HR : Hid (i = at_) := by
          show _ = _
          rw [← HG.out]
          cases f with
          | zero => rfl
          | succ f => rw [splG, if_neg (by have := HP3.out; omega)]
        clear HG HP HT HB hge
        go_wp2_with (first
          | (go_at_call 34; refine (HSZ.out _).mono ?_; rintro e w3 ⟨rfl, hK3⟩)
          | fail)
        go_ret
        rw [← HR.out]
        exact ⟨rfl, hK1.thenN (hK.thenN hK3)⟩
      · have hge' : ¬ (all : Int) ≤ (p3 : Int) := by omega
        obtain ⟨f', Hf⟩ : ∃ f', Hid (f = f' + 1) := ⟨f - 1, by have := HF.out; show _ = _; omega⟩
        have HG2 : Hid (splG (fun j => kSize (l.getD j ⟨#[]⟩)) all lim f' (i + 1) (((l.take (i + 1)).map kSize).sum) = at_) := by
          show _ = _
          have e2 := HG.out
          rw [Hf.out, splG, if_pos (by have := HP3.out; omega)] at e2
          rw [← e2, sum_taken kSize l i hin, HT.out, HP2.out, List.getD_eq_getElem?_getD, List.getElem?_eq_getElem hin]
          rfl
        have HPn : Hid (p2 = ((l.take (i + 1 - 1)).map kSize).sum) := by
          show _ = _
          rw [Nat.add_sub_cancel, HT.out, HP2.out]
        have HFn : Hid (lim < i + 1 + f') := by have := HF.out; have := Hf.out; show _ < _; omega
        clear HG HP HT HB hge
        go_wp2_with (first
          | (go_at_call 34; refine (HSZ.out _).mono ?_; rintro e w3 ⟨rfl, hK3⟩)
          | fail)
        go_roundw
        case rel => exact ⟨i + 1, p2, f', by omega, by omega, by go_num, by first | rfl | rw [hw1] | rw [hw1'], HPn, HG2, HFn, hK.thenN hK3⟩
        case measure => simp [intOf]; omega
    · have hlt' : ¬ (i : Int) < (lim : Int) := by omega
      have HR : Hid (lim = at_) := by
        show _ = _
        rw [← HG.out]
        cases f with
        | zero => show lim = i; omega
        | succ f => rw [splG, if_neg (by omega)]; omega
      clear HG HP
      go_wp2
      go_ret
      rw [← HR.out]
      exact ⟨rfl, hK1.thenN hK⟩

end Go.Proofs.Ytjmkfkmdafjgnaa
