/- The walk of CodeBack, over instructions, any bytes and the table of operands as they lie in memory. -/
import Derived.Test.YtohcpgoiclapjaaDoorILv
import Derived.Test.YtohcpgoiclapjaaDoorISame
namespace Go.Proofs.YtohcpgoiclapjaaDoor.codeBack
open Go.RowKit
set_option linter.unusedVariables false

set_option maxRecDepth 100000 in
set_option maxHeartbeats 2000000 in
theorem walk (v : Value) (l : List In) (s : ByteArray) (W : World) (hT : Ins W v l) (hwf : ∀ x ∈ l, x.wf) (hs : s.size ≤ maxLen) (hG : Glob W) :
    Calls Tryd.prog 5 #[v, .string s] W fun e W' => e = .returned (.bool true) ∧ W.grownBy W' none := by
  obtain ⟨A, HA⟩ : ∃ A : ByteArray, Hid ((⟨(wiB l).toArray⟩ : ByteArray) = A) := ⟨_, rfl⟩
  obtain ⟨E, HE⟩ : ∃ E, Hid (wiE l = E) := ⟨_, rfl⟩
  have HAs : Hid (A.size ≤ maxLen) := by
    show _ ≤ _
    rw [← HA.out]
    exact wiB_le l
  have HAl : Hid (A.data.toList = wiB l) := by show _ = _; rw [← HA.out]
  go_enter Tryd.func5, Tryd.ntmps5
  go_wp2_with fail
  refine (ilives_any _ hG).mono ?_
  rintro e w1 ⟨rfl, hg1⟩
  have hT1 := hT.keptN hg1
  have hG1 := hG.keptN hg1
  go_wp2_with fail
  refine (iwrite_any _ l _ hT1 hwf hG1).mono ?_
  rintro e w2 ⟨rfl, hg2⟩
  rw [HA.out, HE.out]
  have hT2 := hT1.keptN hg2
  have hG2 := hG1.keptN hg2
  go_wp2_with fail
  refine (iread_any A _ HAs.out hG2).mono ?_
  rintro e w3 ⟨v3, e3, rfl, hP3, hg3⟩
  obtain ⟨hi3, he3⟩ := told_ins hP3
  rw [HAl.out] at hi3 he3
  have hT3 := hT2.keptN hg3
  have hG3 := hG2.keptN hg3
  have hgg := grown_up (grown_up hg1 hg2) hg3
  clear hP3 hT hT1 hT2 hG hG1 hG2 hg1 hg2 hg3
  have Hrest : Hid (∀ w5, w3.grownBy w5 none → True) := fun _ _ => trivial
  have HB : Hid (∀ l2, pR 64 s.data.toList = .ok l2 → (∀ x ∈ l2, x.wf) ∧ wiE l2 = 0 ∧ (⟨(wiB l2).toArray⟩ : ByteArray) = s) := by
    intro l2 h
    obtain ⟨h1, h2, h3, h4⟩ := pR_back 64 _ l2 (by rw [Array.length_toList]; exact hs) h
    have hok : wiOk l2 = true := by unfold wiOk; rw [h2, decide_eq_true h4]; rfl
    refine ⟨h3, (wiE_ok l2).2 hok, ?_⟩
    have e : wiB l2 = encP l2 := by unfold wiB; rw [hok]; rfl
    rw [e, h1]
  by_cases h0 : E = 0
  · have hok : wiOk l = true := (wiE_ok l).1 (HE.out.trans h0)
    have hpr : pR 64 (wiB l) = .ok l := by
      have e : wiB l = encP l := by unfold wiB; rw [hok]; rfl
      unfold wiOk at hok
      rw [Bool.and_eq_true] at hok
      rw [e]
      exact pR_enc l 64 hwf hok.2 (of_decide_eq_true hok.1)
    rw [hpr] at hi3 he3
    have h3 : e3 = 0 := he3
    subst h3 h0
    have hS := sameI_self l
    clear he3 hok hpr
    go_wp2_with (go_at_call 13; refine (rsame13_any _ _ _ _ _ hi3 hT3).mono ?_; rintro e w4 ⟨rfl, hg4⟩; rw [show sameI (riL (.ok l)) l = true from hS])
    have hG4 := hG3.keptN hg4
    have hgh := grown_up hgg hg4
    clear hS hi3 hT3
    refine (iread_any s _ hs hG4).mono ?_
    rintro e w5 ⟨v5, e5, rfl, hP5, hg5⟩
    have hG5 := hG4.keptN hg5
    obtain ⟨hi5, he5⟩ := told_ins hP5
    cases hp : pR 64 s.data.toList with
    | error er =>
      rw [hp] at hi5 he5
      have h5 : e5 = er := he5
      subst h5
      have hne : (e5 != 0) = true := by rcases pR_errs _ _ _ hp with rfl | rfl | rfl <;> rfl
      clear hp he5 hP5
      go_wp2_with (go_at_call 9; refine (iwrite_any _ [] _ hi5 (by simp) hG5).mono ?_; rintro e w6 ⟨rfl, hg6⟩)
      go_ret
      exact ⟨rfl, grown_up (grown_up hgh hg5) hg6⟩
    | ok l2 =>
      rw [hp] at hi5 he5
      have h5 : e5 = 0 := he5
      subst h5
      obtain ⟨b1, b2, b3⟩ := HB.out l2 hp
      have t1 : (s.toList == s.toList) = true := by simp
      clear hp he5 hP5
      go_wp2_with (go_at_call 9; refine (iwrite_any _ l2 _ hi5 b1 hG5).mono ?_; rintro e w6 ⟨rfl, hg6⟩; rw [b2, b3])
      go_ret
      exact ⟨rfl, grown_up (grown_up hgh hg5) hg6⟩
  · have h0' : (E == 0) = false := by simp [h0]
    have hG4 := hG3
    have hgh := hgg
    clear h0 hi3 he3 hT3
    go_wp2_with fail
    refine (iread_any s _ hs hG4).mono ?_
    rintro e w5 ⟨v5, e5, rfl, hP5, hg5⟩
    have hG5 := hG4.keptN hg5
    obtain ⟨hi5, he5⟩ := told_ins hP5
    cases hp : pR 64 s.data.toList with
    | error er =>
      rw [hp] at hi5 he5
      have h5 : e5 = er := he5
      subst h5
      have hne : (e5 != 0) = true := by rcases pR_errs _ _ _ hp with rfl | rfl | rfl <;> rfl
      clear hp he5 hP5
      go_wp2_with (go_at_call 9; refine (iwrite_any _ [] _ hi5 (by simp) hG5).mono ?_; rintro e w6 ⟨rfl, hg6⟩)
      go_ret
      exact ⟨rfl, grown_up (grown_up hgh hg5) hg6⟩
    | ok l2 =>
      rw [hp] at hi5 he5
      have h5 : e5 = 0 := he5
      subst h5
      obtain ⟨b1, b2, b3⟩ := HB.out l2 hp
      have t1 : (s.toList == s.toList) = true := by simp
      clear hp he5 hP5
      go_wp2_with (go_at_call 9; refine (iwrite_any _ l2 _ hi5 b1 hG5).mono ?_; rintro e w6 ⟨rfl, hg6⟩; rw [b2, b3])
      go_ret
      exact ⟨rfl, grown_up (grown_up hgh hg5) hg6⟩

end Go.Proofs.YtohcpgoiclapjaaDoor.codeBack
