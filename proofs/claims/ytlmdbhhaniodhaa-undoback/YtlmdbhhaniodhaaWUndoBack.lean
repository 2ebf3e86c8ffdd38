/- The walk of the law UndoBack. Conditions: those that the theorem states. -/
import Derived.Test.YtlmdbhhaniodhaaULives
import Derived.Test.YtlmdbhhaniodhaaUMath
namespace Go.Proofs.Ytlmdbhhaniodhaa.undoBack
open Go.RowKit
set_option linter.unusedVariables false

set_option maxRecDepth 100000 in
set_option maxHeartbeats 800000 in
theorem walk (v : Value) (l : List Int) (s : ByteArray) (B : Nat) (w : World) (hS : Sl (Value.int .i64) B w v l) (hr : i64s l) (hs : s.size ≤ maxLen) : Calls Try.prog 4 #[v, .string s] w fun e w' => e = .returned (.bool true) ∧ w.grownBy w' none := by
  obtain ⟨T, HT⟩ : ∃ T : ByteArray, Hid (⟨(wB l).toArray⟩ = T) := ⟨_, rfl⟩
  have hTs : T.size ≤ maxLen := by
    rw [← HT.out]
    have := wB_len l
    show (wB l).toArray.size ≤ _
    unfold maxLen
    simp
    omega
  obtain ⟨E, HE⟩ : ∃ E, Hid (wE l = E) := ⟨_, rfl⟩
  obtain ⟨F, HF⟩ : ∃ F, Hid (rE T = F) := ⟨_, rfl⟩
  obtain ⟨G, HG⟩ : ∃ G, Hid (rE s = G) := ⟨_, rfl⟩
  obtain ⟨U, HU⟩ : ∃ U : ByteArray, Hid (⟨(wB (rL s)).toArray⟩ = U) := ⟨_, rfl⟩
  obtain ⟨I, HI⟩ : ∃ I, Hid (wE (rL s) = I) := ⟨_, rfl⟩
  go_enter Try.func4, Try.ntmps4
  go_upto_region 5 with (first
    | (go_at_call 8; refine (ulives_any _).mono ?_; rintro e w1 ⟨rfl, hk1⟩; have hS1 := hS.keptN hk1)
    | (go_at_call 9; refine (uwrite_any v l B _ hS1 hr).mono ?_; rintro e w2 ⟨rfl, hk2⟩; rw [HT.out, HE.out])
    | (go_at_call 11; refine (uread_any T _ hTs).mono ?_; rintro e w3 ⟨va, rfl, hO3, hk3⟩; rw [HF.out])
    | fail)
  have hS3 := (hS1.keptN hk2).keptN hk3
  have hK3 := (hk1.then hk2).then hk3
  clear hS hS1 hk1 hk2 hk3
  have hS3' := hS3
  obtain ⟨a, c, rfl, _⟩ := hS3'
  have hO3' := hO3.sl
  obtain ⟨a3, c3, hv3, _⟩ := hO3'
  have second : Hid (G ≠ 0 ∨ (I = 0 ∧ U.toList = s.toList)) := by
    show _ ∨ _
    by_cases h : G = 0
    · right
      have h2 := read_ok (s := s) (by rw [HG.out]; exact h)
      refine ⟨by rw [← HI.out]; exact h2.1, ?_⟩
      rw [ByteArray.toList_eq, ByteArray.toList_eq, ← HU.out]
      exact h2.2.1
    · exact .inl h
  by_cases hE : E = 0
  · subst hE
    have hb := back_read (l := l) HE.out
    rw [HT.out, HF.out] at hb
    obtain ⟨rfl, hl⟩ := hb
    rw [hl] at hO3 hv3
    have hln : l.length ≤ 31 := (wE_ok HE.out).1
    subst hv3
    go_upto_region 7 with (go_at_call 13; refine (sameInts_sl _ _ l _ B _ hO3.sl hS3 (by omega)).mono ?_; rintro e w4 ⟨rfl, hk4⟩)
    go_upto_region 9 with (first
      | (go_at_call 11; refine (uread_any s _ hs).mono ?_; rintro e w5 ⟨vb, rfl, hO5, hk5⟩; rw [HG.out])
      | (go_at_call 9; refine (uwrite_any _ (rL s) _ _ hO5.sl (rL_i64 s)).mono ?_; rintro e w6 ⟨rfl, hk6⟩; rw [HU.out, HI.out])
      | fail)
    have HK : Hid (w.grownBy w6 none) := (((hK3.then hk4).then hk5).then hk6).grown
    have h2 := second.out
    clear hO3 hO5 hS3 hr hK3 hk4 hk5 hk6 hs hTs
    rcases h2 with h2 | ⟨rfl, h2⟩
    · have h3 : (G != 0) = true := by simpa using h2
      go_wp2
      go_ret
      exact ⟨rfl, HK.out⟩
    · have h3 : (U.toList == s.toList) = true := by simpa using h2
      go_wp2
      all_goals
        go_ret
        exact ⟨rfl, HK.out⟩
  · subst hv3
    have hE' : (E == 0) = false := by simpa using hE
    go_upto_region 7 with fail
    go_upto_region 9 with (first
      | (go_at_call 11; refine (uread_any s _ hs).mono ?_; rintro e w5 ⟨vb, rfl, hO5, hk5⟩; rw [HG.out])
      | (go_at_call 9; refine (uwrite_any _ (rL s) _ _ hO5.sl (rL_i64 s)).mono ?_; rintro e w6 ⟨rfl, hk6⟩; rw [HU.out, HI.out])
      | fail)
    have HK : Hid (w.grownBy w6 none) := ((hK3.then hk5).then hk6).grown
    have h2 := second.out
    clear hO3 hO5 hS3 hr hK3 hk5 hk6 hs hTs
    rcases h2 with h2 | ⟨rfl, h2⟩
    · have h3 : (G != 0) = true := by simpa using h2
      go_wp2
      go_ret
      exact ⟨rfl, HK.out⟩
    · have h3 : (U.toList == s.toList) = true := by simpa using h2
      go_wp2
      all_goals
        go_ret
        exact ⟨rfl, HK.out⟩

end Go.Proofs.Ytlmdbhhaniodhaa.undoBack
