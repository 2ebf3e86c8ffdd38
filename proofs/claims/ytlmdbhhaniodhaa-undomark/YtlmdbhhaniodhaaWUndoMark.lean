/- The walk of the law UndoMark. Conditions: those that the theorem states. -/
import Derived.Test.YtlmdbhhaniodhaaULives
namespace Go.Proofs.Ytlmdbhhaniodhaa.undoMark
open Go.RowKit
set_option linter.unusedVariables false

theorem mark_size (b : Bool) : (⟨(markL b).toArray⟩ : ByteArray).size = 64 := by cases b <;> kernel_rfl
theorem mark_says (b : Bool) : saysB ⟨(markL b).toArray⟩ = b := by cases b <;> kernel_rfl
theorem says_torn (X Y : ByteArray) (k : Nat) (hX : X.size = 64) (hY : Y.size = 64) (hk : k ≤ 64) : saysB (X.extract 0 k ++ Y.extract k 64) = if k = 0 then saysB Y else saysB X := by
  unfold saysB strN
  have e : (X.extract 0 k ++ Y.extract k 64).data.toList = X.data.toList.take k ++ Y.data.toList.drop k := by
    rw [ByteArray.data_append, Array.toList_append, ext_list, ext_list]
    simp only [List.drop_zero, Nat.sub_zero]
    congr 1
    refine List.take_of_length_le ?_
    rw [List.length_drop, Array.length_toList]
    show Y.size - k ≤ _
    omega
  rw [e]
  by_cases h0 : k = 0
  · subst h0; simp
  · rw [if_neg h0]
    have hl : X.data.toList.length = 64 := by rw [Array.length_toList]; exact hX
    cases hx : X.data.toList with
    | nil => rw [hx] at hl; simp at hl
    | cons c r =>
      obtain ⟨m, rfl⟩ : ∃ m, k = m + 1 := ⟨k - 1, by omega⟩
      simp
theorem saysN : saysB ⟨#[]⟩ = false := by kernel_rfl
set_option maxRecDepth 100000 in
set_option maxHeartbeats 800000 in
theorem walk (a b : Bool) (cut : Int) (w : World) : Calls Try.prog 7 #[.bool a, .bool b, .int .i64 cut] w fun e w' => e = .returned (.bool true) ∧ w.grownBy w' none := by
  obtain ⟨k, hk, hk64⟩ : ∃ k : Nat, wrap64 ((IntKind.u64.wrap cut).tmod 65) = (k : Int) ∧ k ≤ 64 := by
    have e : IntKind.u64.wrap cut = cut % 18446744073709551616 := by rfl
    refine ⟨((cut % 18446744073709551616) % 65).toNat, ?_, by omega⟩
    rw [e, Int.tmod_eq_emod_of_nonneg (by omega)]
    unfold wrap64
    omega
  obtain ⟨X, HX⟩ : ∃ X : ByteArray, Hid (⟨(markL a).toArray⟩ = X) := ⟨_, rfl⟩
  obtain ⟨Y, HY⟩ : ∃ Y : ByteArray, Hid (⟨(markL b).toArray⟩ = Y) := ⟨_, rfl⟩
  have hXs : X.size = 64 := by rw [← HX.out]; exact mark_size a
  have hYs : Y.size = 64 := by rw [← HY.out]; exact mark_size b
  have hXa : saysB X = a := by rw [← HX.out]; exact mark_says a
  have hYb : saysB Y = b := by rw [← HY.out]; exact mark_says b
  have HT : Hid (saysB (X.extract 0 k ++ Y.extract k 64) = if k = 0 then b else a) := by show _ = _; rw [says_torn X Y k hXs hYs hk64, hXa, hYb]
  obtain ⟨t, Ht⟩ : ∃ t : Bool, Hid ((if k = 0 then b else a) = t) := ⟨_, rfl⟩
  have hta : t = a ∨ t = b := by rw [← Ht.out]; split <;> simp
  rw [Ht.out] at HT
  have hki : (k : Int) ≤ 64 := by omega
  have hcat : ¬ 9223372036854775807 < (X.extract 0 k).size + (Y.extract k 64).size := by rw [ByteArray.size_extract, ByteArray.size_extract]; omega
  have hna : (a != a) = false := by cases a <;> rfl
  have hnb : (b != b) = false := by cases b <;> rfl
  go_enter Try.func7, Try.ntmps7
  go_upto_region 4 with (first
    | (go_at_call 8; refine (ulives_any _).mono ?_; rintro e w1 ⟨rfl, hk1⟩)
    | (go_at_call 22; refine (mark_any _ _).mono ?_; rintro e w2 ⟨rfl, hk2⟩; first | (rw [HX.out]; have hkX := hk2) | (rw [HY.out]; have hkY := hk2) | fail)
    | fail)
  go_upto_region 6 with (go_at_call 23; refine (marked_any _ _).mono ?_; rintro e w4 ⟨rfl, rfl⟩; first | rw [hXa] | rw [hYb] | rw [saysN] | fail)
  have HK : Hid (w.grownBy w4 none) := ((hk1.then hkX).then hkY).grown
  clear hXa hYb hna hnb hk1 hkX hkY
  go_upto_region 7 with fail
  rw [hk]
  clear hk hk2
  have dr : w4.grownBy w4.drew none := ⟨rfl, rfl, rfl, Nat.le_refl _, fun _ _ _ => rfl⟩
  go_region_held_law (fun W => w4.grownBy W none) (first | assumption | exact dr | exact World.grownBy.refl _ _) (first | (go_at_call 23; refine (marked_any _ _).mono ?_; rintro e w5 ⟨rfl, rfl⟩; rw [HT.out]))
  rcases hta with rfl | rfl
  · have h1 : (t == t) = true := by cases t <;> rfl
    go_wp2
    go_ret
    exact ⟨rfl, grown_trans HK.out dr (.inl rfl)⟩
  · have h1 : (t == t) = true := by cases t <;> rfl
    go_wp2
    all_goals
      go_ret
      exact ⟨rfl, grown_trans HK.out dr (.inl rfl)⟩

end Go.Proofs.Ytlmdbhhaniodhaa.undoMark
