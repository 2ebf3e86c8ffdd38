/- The walk of the law UndoCut. Conditions: those that the theorem states. -/
import Derived.Test.YtlmdbhhaniodhaaULives
import Derived.Test.YtlmdbhhaniodhaaUJoinP
namespace Go.Proofs.Ytlmdbhhaniodhaa.undoCut
open Go.RowKit
set_option linter.unusedVariables false

theorem cutAt_list (s : ByteArray) (j : Nat) : (cutAt s j).data.toList = (s.data.toList.drop (j * 64)).take 64 := by
  unfold cutAt
  rw [ext_list]
  congr 1
  omega
theorem cut_back {s : ByteArray} (h : cutE s = 0) : joinE (cutL s) = 0 ∧ joinS (cutL s) = s := by
  have hs : s.size = 256 := by
    unfold cutE at h
    split at h
    · assumption
    · cases h
  have hl : s.data.toList.length = 256 := by rw [Array.length_toList]; exact hs
  have e : cutL s = cuts s 4 := by simp [cutL, hs]
  have ho : okJ (cuts s 4) = true := by
    unfold okJ
    simp only [decide_eq_true_eq]
    refine ⟨cuts_len s 4, fun x hx => ?_⟩
    obtain ⟨j, hj, rfl⟩ := List.mem_map.1 hx
    have : j < 4 := by simpa using hj
    unfold cutAt
    rw [ByteArray.size_extract]
    omega
  have hc : catB (cuts s 4) = s.data.toList := by
    have e4 : cuts s 4 = [cutAt s 0, cutAt s 1, cutAt s 2, cutAt s 3] := rfl
    rw [e4]
    unfold catB
    simp only [List.flatMap_cons, List.flatMap_nil, List.append_nil, cutAt_list]
    have step : ∀ k : Nat, (s.data.toList.drop (k * 64)).take 64 ++ s.data.toList.drop ((k + 1) * 64) = s.data.toList.drop (k * 64) := fun k => by
      have := List.take_append_drop 64 (s.data.toList.drop (k * 64))
      rw [List.drop_drop] at this
      rw [show (k + 1) * 64 = k * 64 + 64 by omega]
      exact this
    have s3 : (s.data.toList.drop (3 * 64)).take 64 = s.data.toList.drop (3 * 64) := List.take_of_length_le (by rw [List.length_drop]; omega)
    rw [s3, show (3 * 64) = (2 + 1) * 64 from rfl, step 2, show (2 * 64) = (1 + 1) * 64 from rfl, step 1, show (1 * 64) = (0 + 1) * 64 from rfl, step 0]
    simp
  rw [e]
  refine ⟨by simp [joinE, ho], ?_⟩
  unfold joinS
  rw [if_pos ho, hc]
theorem cutE_bad {s : ByteArray} (h : cutE s ≠ 0) : cutE s = 1 := by
  unfold cutE at *
  split at h
  · exact absurd rfl h
  · rename_i h2; rw [if_neg h2]
theorem cutL_len (s : ByteArray) : (cutL s).length ≤ 4 := by
  unfold cutL
  split
  · rw [cuts_len]; omega
  · simp
set_option maxRecDepth 100000 in
set_option maxHeartbeats 800000 in
theorem walk (s : ByteArray) (v : Value) (l : List ByteArray) (B : Nat) (w : World) (hS : Sl Value.string B w v l) (hB : B ≤ w.heap.size) (hs : s.size ≤ maxLen) : Calls Try.prog 5 #[.string s, v] w fun e w' => e = .returned (.bool true) ∧ w.grownBy w' none := by
  obtain ⟨E, HE⟩ : ∃ E, Hid (cutE s = E) := ⟨_, rfl⟩
  obtain ⟨C, HC⟩ : ∃ C, Hid (joinS l = C) := ⟨_, rfl⟩
  obtain ⟨G, HG⟩ : ∃ G, Hid (joinE l = G) := ⟨_, rfl⟩
  obtain ⟨T, HT⟩ : ∃ T, Hid (joinS (cutL s) = T) := ⟨_, rfl⟩
  obtain ⟨I, HI⟩ : ∃ I, Hid (joinE (cutL s) = I) := ⟨_, rfl⟩
  have hS' := hS
  obtain ⟨a, c, rfl, _⟩ := hS'
  go_enter Try.func5, Try.ntmps5
  go_upto_region 7 with (first
    | (go_at_call 8; refine (ulives_any _).mono ?_; rintro e w1 ⟨rfl, hk1⟩)
    | (go_at_call 14; refine (cut_any s _ hs).mono ?_; rintro e w2 ⟨va, rfl, hO2, hk2⟩; rw [HE.out])
    | (go_at_call 15; refine (rcut_any s _ hs).mono ?_; rintro e w3 ⟨vb, rfl, hO3, hk3⟩; rw [HE.out]; have hS3 := hS.keptN ((hk1.then hk2).then hk3); have hB3 := Nat.le_trans hB ((hk1.then hk2).then hk3).size)
    | (go_at_call 16; refine (join_any _ l B _ hS3 hB3).mono ?_; rintro e w4 ⟨rfl, hk4⟩; rw [HC.out, HG.out]; have hS4 := hS3.keptN hk4)
    | (go_at_call 17; refine (rjoin_any _ l B _ hS4).mono ?_; rintro e w5 ⟨rfl, hk5⟩; rw [HC.out, HG.out])
    | fail)
  have ha5 := (((hO2.keptN hk3).keptN hk4).keptN hk5).sl
  have hb5 := ((hO3.keptN hk4).keptN hk5).sl
  have HK : Hid (Kp none' w w5) := (((hk1.then hk2).then hk3).then hk4).then hk5
  clear hS hS3 hS4 hk1 hk2 hk3 hk4 hk5 hO2 hO3 hs hB hB3
  have hln := cutL_len s
  have ha5' := ha5
  have hb5' := hb5
  obtain ⟨a4, c4, rfl, _⟩ := ha5'
  obtain ⟨a5, c5, rfl, _⟩ := hb5'
  have h1 : (E == E) = true := by simp
  have h2 : (C.toList == C.toList) = true := by simp
  have h3 : (G == G) = true := by simp
  go_upto_region 8 with (go_at_call 16; refine (join_any _ (cutL s) _ _ ha5 (Nat.le_refl _)).mono ?_; rintro e w6 ⟨rfl, hk6⟩; rw [HT.out, HI.out])
  have ha6 := ha5.keptN hk6
  have hb6 := hb5.keptN hk6
  have HK6 : Hid (Kp none' w w6) := HK.out.then hk6
  clear ha5 hb5 hk6
  by_cases hE : E = 0
  · subst hE
    have hb := cut_back (s := s) HE.out
    rw [HI.out, HT.out] at hb
    obtain ⟨rfl, rfl⟩ := hb
    have h4 : (T.toList == T.toList) = true := by simp
    go_wp2_with (go_at_call 18; refine (sameTexts_sl _ _ (cutL T) _ _ _ ha6 hb6 (by omega)).mono ?_; rintro e w7 ⟨rfl, hk7⟩)
    go_ret
    exact ⟨rfl, (HK6.out.then hk7).grown⟩
  · have hE' : (E != 0) = true := by simpa using hE
    go_wp2_with (go_at_call 18; refine (sameTexts_sl _ _ (cutL s) _ _ _ ha6 hb6 (by omega)).mono ?_; rintro e w7 ⟨rfl, hk7⟩)
    go_ret
    exact ⟨rfl, (HK6.out.then hk7).grown⟩

end Go.Proofs.Ytlmdbhhaniodhaa.undoCut
