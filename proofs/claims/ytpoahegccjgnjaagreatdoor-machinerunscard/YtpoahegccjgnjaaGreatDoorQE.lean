/- Contracts, over the turned program: the rules of package check, each of them for the k-th instruction. Conditions: those that each theorem states. -/
import Derived.Test.YtpoahegccjgnjaaGreatDoorQJa
namespace Go.Proofs.YtpoahegccjgnjaaGreatDoor
open Go.RowKit
set_option linter.unusedVariables false

def d0 : In := ⟨0, 0, 0, 0, zV⟩
theorem getD_at {l : List In} {k : Nat} (h : k < l.length) : l.getD k d0 = l[k] := by rw [List.getD_eq_getElem?_getD, List.getElem?_eq_getElem h]; rfl
/-- A function that tells of the k-th instruction of a program what p says. -/
def RuleP (f : Nat) (p : List In → Nat → Bool) : Prop := ∀ (v : Value) (l : List In) (k : Nat) (w : World), Ins w v l → (∀ x ∈ l, x.wf) → Glob w → k < l.length →
  Calls Tryz.prog f #[v, .int .i64 (k : Int)] w fun e w' => e = .returned (.bool (p l k)) ∧ w.grownBy w' none
/-- The k-th instruction's cells, as the walk reads them. -/
theorem Ins.at {w : World} {a : Option Addr} {n c : Nat} {l : List In} (h : Ins w (.slice a n c) l) (k : Nat) (hk : k < l.length) : n = l.length ∧ l.length ≤ c ∧ c ≤ maxLen ∧ ∃ b off, a = some ⟨b, off, none⟩ ∧ b < w.heap.size ∧ (∀ j u, (In.cells (l.getD k d0))[j]? = some u → w.cell? ⟨b, off + k * 7 + j, none⟩ = some u) := by
  obtain ⟨a', c', h0, h1, h2, h3⟩ := h
  cases h0
  obtain ⟨b, off, ha, hb, hc⟩ := h3 k hk
  exact ⟨rfl, h1, h2, b, off, ha, hb, by rw [getD_at hk]; exact hc⟩

set_option maxRecDepth 100000 in
set_option maxHeartbeats 400000 in
theorem qroom : RuleP 70 (fun l k => decide (k < 64)) := by
  intro v l k w hT hwf hG hk
  have hB : decide (k < 64) = decide ((k : Int) < 64) := by rw [decide_eq_decide]; omega
  dsimp only
  rw [hB]
  obtain ⟨B, HB⟩ : ∃ B, B = decide ((k : Int) < 64) := ⟨_, rfl⟩
  have hkm : (k : Int) < 9223372036854775808 := by have := hT.lm; unfold maxLen at this; omega
  clear hB
  by_cases h : (k : Int) < 64
  · have : B = true := by rw [HB]; exact decide_eq_true h
    rw [← HB, this]
    clear HB
    go_enter Tryz.func70, Tryz.ntmps70
    go_wp2
    go_ret
    exact ⟨rfl, World.grownBy.refl _ _⟩
  · have : B = false := by rw [HB]; exact decide_eq_false h
    rw [← HB, this]
    clear HB
    go_enter Tryz.func70, Tryz.ntmps70
    go_wp2
    go_ret
    exact ⟨rfl, World.grownBy.refl _ _⟩

theorem ins_one {w : World} {b off c : Nat} {x : In} (hc : 1 ≤ c) (hm : c ≤ maxLen) (hb : b < w.heap.size) (h : ∀ j u, (In.cells x)[j]? = some u → w.cell? ⟨b, off + j, none⟩ = some u) : Ins w (.slice (some ⟨b, off, none⟩) 1 c) [x] := by
  refine ⟨some ⟨b, off, none⟩, c, rfl, by simpa using hc, hm, fun i hi => ⟨b, off, rfl, hb, ?_⟩⟩
  obtain rfl : i = 0 := by simp at hi; omega
  simpa using h
theorem wiE_one (x : In) : (wiE [x] == 0) = okI x := by
  unfold wiE
  cases h : okI x <;> simp [h]

set_option maxRecDepth 100000 in
set_option maxHeartbeats 400000 in
theorem qmay : RuleP 71 (fun l k => okI (l.getD k d0)) := by
  intro v l k w hT hwf hG hk
  dsimp only
  obtain ⟨a, c, rfl, _, _, _⟩ := hT
  have hT : Ins w (.slice a l.length c) l := ⟨a, c, rfl, by assumption, by assumption, by assumption⟩
  obtain ⟨_, hlc, hcm, b, off, rfl, hb, hcs⟩ := hT.at k hk
  have hx : (l.getD k d0).wf := by rw [getD_at hk]; exact hwf _ (List.getElem_mem hk)
  generalize l.getD k d0 = x at *
  have HI := hide (ins_one (w := w) (b := b) (off := off + k * 7) (c := c - k) (x := x) (by omega) (by omega) hb hcs)
  have HE := hide (wiE_one x)
  have hkc : (k : Int) + 1 ≤ (c : Int) := by omega
  have hkl : (k : Int) < (l.length : Int) := by omega
  have hm2 : (c : Int) ≤ 9223372036854775807 := by unfold maxLen at hcm; omega
  have hne : ¬ (c = k) := by omega
  clear hT hcs hwf
  go_enter Tryz.func71, Tryz.ntmps71
  go_wp2_with (go_at_call 87; refine (iwrite_any _ [x] _ HI.out (by simpa using hx) hG).mono ?_; rintro e w1 ⟨rfl, hg1⟩)
  go_ret
  rw [HE.out]
  exact ⟨rfl, hg1⟩

theorem all_take (p : Int → Bool) (l : List Int) (k : Nat) (hk : k < l.length) (h : ∀ j (hj : j < k), p (l[j]'(by omega)) = true) (hx : p l[k] = true) : ∀ j (hj : j < k + 1), p (l[j]'(by omega)) = true := by
  intro j hj
  rcases Nat.lt_or_ge j k with h1 | h1
  · exact h j h1
  · obtain rfl : j = k := by omega
    exact hx

set_option maxRecDepth 100000 in
set_option maxHeartbeats 1000000 in
theorem qhasRegs : RuleP 72 (fun l k => regOk (l.getD k d0)) := by
  intro v l k w hT hwf hG hk
  dsimp only
  obtain ⟨a, c, rfl, _, _, _⟩ := hT
  have hT : Ins w (.slice a l.length c) l := ⟨a, c, rfl, by assumption, by assumption, by assumption⟩
  obtain ⟨_, hlc, hcm, b, off, rfl, hb, hcs⟩ := hT.at k hk
  generalize l.getD k d0 = x at *
  have hkl : (k : Int) < (l.length : Int) := by omega
  obtain ⟨c0, c1, c2, c3, c4, c5, c6⟩ := cells7 hcs
  obtain ⟨B, HB⟩ : ∃ B, Hid (regOk x = B) := ⟨_, rfl⟩
  rw [HB.out]
  have HRg := hide (qregs_any x)
  obtain ⟨R, HR⟩ : ∃ R, Hid (regsI x = R) := ⟨_, rfl⟩
  rw [HR.out] at HRg
  have HB2 : Hid (B = R.all (fun r => decide (r < 6))) := by show _ = _; rw [← HB.out, ← HR.out]; rfl
  unfold In.val at HRg
  clear hT hcs hwf hlc hcm
  go_enter Tryz.func72, Tryz.ntmps72
  go_wp2_with fail
  refine (HRg.out _ hG).mono ?_
  rintro e w1 ⟨v1, rfl, hS, hg1⟩
  obtain ⟨a1, cp1, rfl, hl1, hm1, hS1⟩ := hS
  have Hm1 := hide hm1
  clear hm1 c0 c1 c2 c3 c4 c5 c6
  have HL1 := hide hS1
  clear hS1
  have hR31 : R.length ≤ 9223372036854775807 := by have := Hm1.out; unfold maxLen at this; omega
  go_wp2_with fail
  go_loopw [13] (fun t wr => ∃ j : Nat, j ≤ R.length ∧ t = .int .i64 j ∧ wr = w1 ∧ Hid (∀ q (hq : q < j), ∀ h : q < R.length, decide (R[q] < 6) = true)) (fun t _ => R.length - (intOf t).toNat)
  case atStart => exact ⟨0, Nat.zero_le _, rfl, rfl, fun q hq => by omega⟩
  case round =>
    obtain ⟨j, hj, rfl, rfl, Hq⟩ := hrel
    by_cases hlt : j < R.length
    · obtain ⟨b1, o1, rfl, hb1, hcj⟩ := HL1.out j hlt
      have hji : (j : Int) < (R.length : Int) := by omega
      by_cases h6 : R[j] < 6
      · have Hs : Hid (∀ q (hq : q < j + 1), ∀ h : q < R.length, decide (R[q] < 6) = true) := by
          intro q hq h
          rcases Nat.lt_or_ge q j with h1 | h1
          · exact Hq.out q h1 h
          · obtain rfl : q = j := by omega
            exact decide_eq_true h6
        generalize R[j] = z at *
        have t1 : ¬ (6 : Int) ≤ z := by omega
        go_wp2
        go_roundw
        case rel => exact ⟨j + 1, by omega, by go_num, by trivial, Hs⟩
        case measure => simp [intOf]; omega
      · have Hz : Hid (B = false) := by
          show _ = _
          rw [HB2.out, List.all_eq_false]
          exact ⟨R[j], List.getElem_mem hlt, by simpa using Int.not_lt.1 h6⟩
        generalize R[j] = z at *
        have t1 : (6 : Int) ≤ z := by omega
        clear h6
        go_wp2
        go_ret
        rw [Hz.out]
        exact ⟨rfl, hg1⟩
    · obtain rfl : j = R.length := by omega
      have Hz : Hid (B = true) := by
        show _ = _
        rw [HB2.out, List.all_eq_true]
        intro z hz
        obtain ⟨q, hq, rfl⟩ := List.getElem_of_mem hz
        exact Hq.out q hq hq
      go_wp2
      go_ret
      rw [Hz.out]
      exact ⟨rfl, hg1⟩

set_option maxRecDepth 100000 in
set_option maxHeartbeats 1000000 in
theorem qhasTgt : RuleP 73 (fun l k => tgtOk l.length (l.getD k d0)) := by
  intro v l k w hT hwf hG hk
  dsimp only
  obtain ⟨a, c, rfl, _, _, _⟩ := hT
  have hT : Ins w (.slice a l.length c) l := ⟨a, c, rfl, by assumption, by assumption, by assumption⟩
  obtain ⟨_, hlc, hcm, b, off, rfl, hb, hcs⟩ := hT.at k hk
  generalize l.getD k d0 = x at *
  have hkl : (k : Int) < (l.length : Int) := by omega
  obtain ⟨c0, c1, c2, c3, c4, c5, c6⟩ := cells7 hcs
  have HG := hide (qtarget_any x)
  obtain ⟨T, HT⟩ : ∃ T, Hid (tgI x = T) := ⟨_, rfl⟩
  obtain ⟨H, HH⟩ : ∃ H, Hid (hasT x = H) := ⟨_, rfl⟩
  rw [HT.out, HH.out] at HG
  have HB : Hid (tgtOk l.length x = (!H || decide (T < (l.length : Int)))) := by
    show _ = _
    unfold tgtOk
    rw [HH.out]
    cases H with
    | false => rfl
    | true => rw [← HT.out]; unfold tgI; rw [HH.out]; rfl
  rw [HB.out]
  unfold In.val at HG
  clear hT hcs hwf hlc hcm
  cases H with
  | false =>
    go_enter Tryz.func73, Tryz.ntmps73
    go_wp2_with (go_at_call 89; refine (HG.out _).mono ?_; rintro e w1 ⟨rfl, hg1⟩)
    go_ret
    exact ⟨rfl, hg1⟩
  | true =>
    go_enter Tryz.func73, Tryz.ntmps73
    go_wp2_with (go_at_call 89; refine (HG.out _).mono ?_; rintro e w1 ⟨rfl, hg1⟩)
    go_ret
    exact ⟨by simp, hg1⟩

set_option maxRecDepth 100000 in
set_option maxHeartbeats 1000000 in
theorem qstays : RuleP 74 (fun l k => decide (k + 1 < l.length) || endsI (l.getD k d0)) := by
  intro v l k w hT hwf hG hk
  dsimp only
  obtain ⟨a, c, rfl, _, _, _⟩ := hT
  have hT : Ins w (.slice a l.length c) l := ⟨a, c, rfl, by assumption, by assumption, by assumption⟩
  obtain ⟨_, hlc, hcm, b, off, rfl, hb, hcs⟩ := hT.at k hk
  generalize l.getD k d0 = x at *
  have hkl : (k : Int) < (l.length : Int) := by omega
  obtain ⟨c0, c1, c2, c3, c4, c5, c6⟩ := cells7 hcs
  have HV := hide (qleaves_any x)
  have hlm : (l.length : Int) ≤ 9223372036854775807 := by unfold maxLen at hcm; omega
  clear hT hcs hwf hlc hcm
  by_cases h : k + 1 < l.length
  · rw [decide_eq_true h, Bool.true_or]
    have t1 : (k : Int) < (l.length : Int) - 1 := by omega
    go_enter Tryz.func74, Tryz.ntmps74
    go_wp2
    go_ret
    exact ⟨rfl, World.grownBy.refl _ _⟩
  · rw [decide_eq_false h, Bool.false_or]
    have t1 : ¬ (k : Int) < (l.length : Int) - 1 := by omega
    obtain ⟨E, HE⟩ : ∃ E, Hid (endsI x = E) := ⟨_, rfl⟩
    rw [HE.out] at HV ⊢
    clear h
    go_enter Tryz.func74, Tryz.ntmps74
    go_wp2_with (go_at_call 90; refine (HV.out _).mono ?_; rintro e w1 ⟨rfl, hw1⟩; obtain rfl := hw1.symm)
    go_ret
    exact ⟨rfl, World.grownBy.refl _ _⟩

end Go.Proofs.YtpoahegccjgnjaaGreatDoor
