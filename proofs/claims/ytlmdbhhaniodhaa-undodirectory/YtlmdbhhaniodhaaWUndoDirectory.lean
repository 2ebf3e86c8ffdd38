/- The walk of the law UndoDirectory. Conditions: those that the theorem states. -/
import Derived.Test.YtlmdbhhaniodhaaULives
import Derived.Test.YtlmdbhhaniodhaaUDRef
namespace Go.Proofs.Ytlmdbhhaniodhaa.undoDirectory
open Go.RowKit
set_option linter.unusedVariables false

set_option maxRecDepth 100000 in
set_option maxHeartbeats 800000 in
theorem walk (v : Value) (l : List Int) (s : ByteArray) (B : Nat) (w : World) (hS : Sl (Value.int .i64) B w v l) (hr : i64s l) (hs : s.size ≤ maxLen) : Calls Try.prog 3 #[v, .string s] w fun e w' => e = .returned (.bool true) ∧ w.grownBy w' none := by
  obtain ⟨T, HT⟩ : ∃ T : ByteArray, Hid (⟨(wB l).toArray⟩ = T) := ⟨_, rfl⟩
  obtain ⟨E, HE⟩ : ∃ E, Hid (wE l = E) := ⟨_, rfl⟩
  obtain ⟨G, HG⟩ : ∃ G, Hid (rE s = G) := ⟨_, rfl⟩
  have hS' := hS
  obtain ⟨a, c, rfl, _⟩ := hS'
  go_enter Try.func3, Try.ntmps3
  go_upto_region 7 with (first
    | (go_at_call 8; refine (ulives_any _).mono ?_; rintro e w1 ⟨rfl, hk1⟩; have hS1 := hS.keptN hk1)
    | (go_at_call 9; refine (uwrite_any _ l B _ hS1 hr).mono ?_; rintro e w2 ⟨rfl, hk2⟩; rw [HT.out, HE.out]; have hS2 := hS1.keptN hk2)
    | (go_at_call 10; refine (urwrite_any _ l B _ hS2).mono ?_; rintro e w3 ⟨rfl, hk3⟩; rw [HT.out, HE.out])
    | (go_at_call 11; refine (uread_any s _ hs).mono ?_; rintro e w4 ⟨va, rfl, hO4, hk4⟩; rw [HG.out])
    | (go_at_call 12; refine (urread_any s _ hs).mono ?_; rintro e w5 ⟨vb, rfl, hO5, hk5⟩; rw [HG.out])
    | fail)
  have hs4 := (hO4.keptN hk5).sl
  have hs5 := hO5.sl
  have HK : Hid (Kp none' w w5) := (((hk1.then hk2).then hk3).then hk4).then hk5
  clear hS hS1 hS2 hk1 hk2 hk3 hk4 hk5 hO4 hO5 hs hr
  have hln := rL_len s
  have hs4' := hs4
  have hs5' := hs5
  obtain ⟨a4, c4, rfl, _⟩ := hs4'
  obtain ⟨a5, c5, rfl, _⟩ := hs5'
  have h1 : (T.toList == T.toList) = true := by simp
  have h2 : (E == E) = true := by simp
  have h3 : (G == G) = true := by simp
  go_wp2_with (go_at_call 13; refine (sameInts_sl _ _ (rL s) _ _ _ hs4 hs5 (by omega)).mono ?_; rintro e w6 ⟨rfl, hk6⟩)
  go_ret
  exact ⟨rfl, (HK.out.then hk6).grown⟩

end Go.Proofs.Ytlmdbhhaniodhaa.undoDirectory
