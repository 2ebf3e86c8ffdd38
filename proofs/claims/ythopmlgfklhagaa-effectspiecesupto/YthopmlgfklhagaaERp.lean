/- Contracts, over the turned program: bytes in pieces as the document says, and pieces one behind the other. Conditions: those that each theorem states. -/
import Derived.Test.YthopmlgfklhagaaEPc
import Derived.Test.YthopmlgfklhagaaUShelf
namespace Go.Proofs.Ythopmlgfklhagaa
open Go Go.RowKit
set_option linter.unusedVariables false

theorem ow_lit9 (w : World) (X : ByteArray) : Ow Value.string 9 (w.alloc (.cells #[.string X] 9)) w.heap.size (.slice (some ⟨w.heap.size, 0, none⟩) 1 1) [X] := by
  have h := World.ownsRow_lit (base := w.heap.size) (e := 9) (size := 1) w #[.string X] 1 (Nat.le_refl _) (by unfold maxLen; omega) (by simp)
  simpa [Ow] using h
set_option maxRecDepth 100000 in
set_option maxHeartbeats 2000000 in
theorem rpieces_any (s : ByteArray) (n : Int) (w : World) (hs : s.size ≤ 1048576) :
    Calls Try.prog 22 #[.string s, .int .i64 n] w fun e w' => ∃ v, e = .returned v ∧ Ow Value.string 9 w' w.heap.size v (pcs s n) ∧ w.grownBy w' none := by
  obtain ⟨k, HK⟩ : ∃ k, Hid (pcK s n = k) := ⟨_, rfl⟩
  have HE := hide (pcs_eq s n)
  have HN := hide (pcs_nil s n)
  rw [HK.out] at HE
  have hK : (n < 1 ∧ k = s.size) ∨ (¬ n < 1 ∧ (k : Int) = n) := by
    rw [← HK.out]
    unfold pcK
    by_cases h : n < 1
    · rw [if_pos h]; exact .inl ⟨h, rfl⟩
    · rw [if_neg h]; exact .inr ⟨h, by omega⟩
  obtain ⟨P, HP⟩ : ∃ P, Hid (pcs s n = P) := ⟨_, rfl⟩
  rw [HP.out] at HE HN ⊢
  by_cases hz : s.size = 0
  · have hP := hide (HN.out hz)
    have he : (s.toList == []) = true := by rw [ByteArray.toList_eq, size_nil9 s hz]; rfl
    clear hz hK
    go_enter Try.func22, Try.ntmps22
    go_wp2
    go_ret
    refine ⟨_, rfl, ?_, World.grownBy.refl _ _⟩
    rw [hP.out]
    exact Ow.nil _ _ _ _
  have he : (s.toList == []) = false := by rw [beq_eq_false_iff_ne, ByteArray.toList_eq]; intro h; have := congrArg List.length h; rw [Array.length_toList] at this; exact hz this
  by_cases hone : n < 1 ∨ (s.size : Int) ≤ n
  · have hks : s.size ≤ k := by omega
    have hP := hide (HE.out 0 (by omega) (by omega))
    have hA : Hid (pcP s k (0 + 1) = [s]) := by show _ = _; rw [pcP_succ, ← pcR_last s k 0 (by omega), pcR_0]; rfl
    have hlit := ow_lit9 w s
    have hga := World.grownBy_alloc w (.cells #[.string s] 9) none
    clear hK hz HE HN
    by_cases h1 : n < 1
    · go_enter Try.func22, Try.ntmps22
      go_wp2
      go_ret
      refine ⟨_, rfl, ?_, hga⟩
      rw [hP.out, hA.out]
      exact hlit
    · have h2 : (s.size : Int) ≤ n := by omega
      clear hone hks
      go_enter Try.func22, Try.ntmps22
      go_wp2
      go_ret
      refine ⟨_, rfl, ?_, hga⟩
      rw [hP.out, hA.out]
      exact hlit
  · have h1 : ¬ n < 1 := by omega
    have h2 : ¬ (s.size : Int) ≤ n := by omega
    have hk : (k : Int) = n := by omega
    have Hk := hide hk
    have Hs := hide hs
    have Hz := hide hz
    have hk1 : 1 ≤ k := by omega
    have H2 := hide h2
    clear hs hK hone hz hk
    go_enter Try.func22, Try.ntmps22
    go_wp2_with fail
    go_loopw [5, 6] (fun v t wr => ∃ j : Nat, t = .int .i64 ((j * k : Nat) : Int) ∧ Hid (j = 0 ∨ (j - 1) * k < s.size) ∧ Hid (j = 0 → s.size ≠ 0) ∧ Ow Value.string 9 wr w.heap.size v (pcP s k j) ∧ w.grownBy wr none) (fun _ t _ => s.size + k - (intOf t).toNat)
    case atStart => exact ⟨0, by simp, .inl rfl, fun _ => Hz.out, Ow.nil _ _ _ _, World.grownBy.refl _ _⟩
    case round =>
      obtain ⟨j, rfl, Hj, Hj0, ho, hg⟩ := hrel
      have hSc := hide (pcP_succ s k j)
      have hm := hide (mul_ge9 j k hk1)
      have hss : Hid ((j + 1) * k = j * k + k) := Nat.succ_mul j k
      have hsz := hg.size
      obtain ⟨J, HJ⟩ : ∃ J : Nat, Hid (j * k = J) := ⟨_, rfl⟩
      rw [HJ.out]
      by_cases hlt : (J : Int) < (s.size : Int)
      · have hwr : wrap64 ((J : Int) + n) = (J : Int) + n := by have := Hs.out; have := H2.out; unfold wrap64; omega
        have k0 : (0 : Int) ≤ (J : Int) := by omega
        have hA : Hid (pcA s k j = s.extract J (min (J + k) s.size)) := by show s.extract (j * k) (min ((j + 1) * k) s.size) = _; rw [hss.out, HJ.out]
        obtain ⟨v', w', hr, hO', hg', hv'⟩ := app_str9 wr w.heap.size u5 (pcP s k j) (pcA s k j) ho hsz (by rw [pcP_len]; have h1 := hm.out; have h3 := Hs.out; have h4 := HJ.out; omega)
        have hgg : w.grownBy w' none := grown_new hg hg' (fun i e => (ho.lt i e).1)
        have hX : s.extract J (min ((J : Int) + n) (s.size : Int)).toNat = pcA s k j := by rw [hA.out]; congr 1; have := Hk.out; omega
        have k1 : (J : Int) ≤ min ((J : Int) + n) (s.size : Int) := by omega
        have k2 : min ((J : Int) + n) (s.size : Int) ≤ (s.size : Int) := by omega
        have hnx : Hid (((J : Int) + n) = (((j + 1) * k : Nat) : Int)) := by show _ = _; rw [hss.out, HJ.out]; have := Hk.out; omega
        have HM : Hid (s.size + k - ((j + 1) * k) < s.size + k - J) := by have h3 := hss.out; have h4 := HJ.out; show _ < _; omega
        go_wp2_with (first | (at_builtin; refine wpList_app_at9 rfl (.tmp 26) (.tmp 36) 55 55 rfl _ _ rfl rfl hr ?_))
        go_roundw
        case rel => exact ⟨j + 1, by rw [hwr, hnx.out], .inr (by rw [Nat.add_sub_cancel, HJ.out]; omega), fun h => by omega, by rw [hSc.out]; exact hO', hgg⟩
        case measure => show s.size + k - (wrap64 ((J : Int) + n)).toNat < s.size + k - ((J : Int)).toNat; rw [hwr, hnx.out]; exact HM.out
      · have hJs : s.size ≤ J := by omega
        have hj1 : j ≠ 0 := by
          intro h
          have h4 := HJ.out
          rw [h, Nat.zero_mul] at h4
          have := Hj0.out h
          omega
        have hP := hide (HE.out (j - 1) (by exact Hj.out.elim (fun h => absurd h hj1) id) (by rw [show j - 1 + 1 = j by omega, HJ.out]; exact hJs))
        go_wp2
        go_ret
        refine ⟨_, rfl, ?_, hg⟩
        rw [hP.out, show j - 1 + 1 = j by omega]
        exact ho

/-- Pieces put together. -/
theorem join_flat (l : List (List UInt8)) : Lib.join l [] = l.flatten := by
  rw [Lib.join]
  induction l with
  | nil => rfl
  | cons x l ih =>
    cases l with
    | nil => simp [List.intercalate]
    | cons y l =>
      rw [List.flatten_cons, ← ih]
      simp [List.intercalate]
theorem pcP_flat (s : ByteArray) (k m : Nat) : ((pcP s k m).map (·.data.toList)).flatten = s.data.toList.take (m * k) := by
  induction m with
  | zero => rw [Nat.zero_mul]; rfl
  | succ m ih =>
    rw [pcP_succ, List.map_append, List.flatten_append, ih]
    show _ ++ [(pcA s k m).data.toList].flatten = _
    rw [List.flatten_cons, List.flatten_nil, List.append_nil]
    unfold pcA
    rw [ext_list]
    have hL : s.data.toList.length = s.size := by rw [Array.length_toList]; rfl
    rw [Nat.succ_mul, List.take_add]
    congr 1
    rcases Nat.le_total (m * k + k) s.size with h | h
    · rw [Nat.min_eq_left h]; congr 1; omega
    · rw [Nat.min_eq_right h, List.take_of_length_le (by rw [List.length_drop]; omega), List.take_of_length_le (by rw [List.length_drop]; omega)]
theorem pcs_flat (s : ByteArray) (n : Int) : ((pcs s n).map (·.data.toList)).flatten = s.data.toList := by
  have hL : s.data.toList.length = s.size := by rw [Array.length_toList]; rfl
  unfold pcs
  rw [pcP_flat]
  apply List.take_of_length_le
  unfold pcN
  by_cases h : s.size = 0
  · rw [if_pos h]; omega
  · rw [if_neg h]
    have hk : 1 ≤ pcK s n := by unfold pcK; split <;> omega
    generalize pcK s n = k at *
    have h1 := Nat.div_add_mod (s.size + k - 1) k
    have h2 := Nat.mod_lt (s.size + k - 1) (show 0 < k by omega)
    rw [Nat.mul_comm] at h1
    omega
theorem pcs_ne (s : ByteArray) (n : Int) (i : Nat) (h : i < (pcs s n).length) : ((pcs s n)[i].toList == []) = false := by
  rw [beq_eq_false_iff_ne, ByteArray.toList_eq]
  intro e
  have e2 := congrArg List.length e
  rw [Array.length_toList] at e2
  have e3 : ((pcs s n)[i]).size = 0 := e2
  have hi : i < pcN s n := by have h' := h; unfold pcs at h'; rw [pcP_len] at h'; exact h'
  have e4 : (pcs s n)[i] = pcA s (pcK s n) i := pcP_at s _ _ i h
  rw [e4] at e3
  unfold pcA at e3
  rw [ByteArray.size_extract] at e3
  unfold pcN at hi
  by_cases hz : s.size = 0
  · rw [if_pos hz] at hi; omega
  · rw [if_neg hz] at hi
    have hk : 1 ≤ pcK s n := by unfold pcK; split <;> omega
    generalize pcK s n = k at *
    have h1 := Nat.div_add_mod (s.size + k - 1) k
    have h3 : (i + 1) * k ≤ (s.size + k - 1) / k * k := Nat.mul_le_mul_right k (by omega)
    rw [Nat.mul_comm] at h1
    have h4 : (i + 1) * k = i * k + k := Nat.succ_mul i k
    omega
theorem pcs_len (s : ByteArray) (n : Int) : (pcs s n).length ≤ s.size := by
  unfold pcs
  rw [pcP_len]
  unfold pcN
  by_cases hz : s.size = 0
  · rw [if_pos hz]; omega
  · rw [if_neg hz]
    have hk : 1 ≤ pcK s n := by unfold pcK; split <;> omega
    generalize pcK s n = k at *
    have h1 := Nat.div_add_mod (s.size + k - 1) k
    have h2 := mul_ge9 ((s.size + k - 1) / k - 1) k hk
    have h3 : ((s.size + k - 1) / k - 1) * k = (s.size + k - 1) / k * k - 1 * k := Nat.sub_mul _ _ _
    rw [Nat.mul_comm] at h1
    rcases Nat.eq_zero_or_pos ((s.size + k - 1) / k) with h4 | h4
    · omega
    · have h5 : k ≤ (s.size + k - 1) / k * k := by have := Nat.mul_le_mul_right k h4; omega
      omega
theorem join_nil9 (w : World) : Calls Try.prog 40 #[.slice none 0 0, .string ⟨#[]⟩] w fun e w' => e = .returned (.string ⟨#[]⟩) ∧ w' = w := by
  go_enter Try.func40, Try.ntmps40
  go_wp2
  go_ret
  exact ⟨rfl, rfl⟩
theorem grown_below {w w' : World} (h : Below w.heap.size w w') : w.grownBy w' none := ⟨h.os, h.tape, h.output, h.size, fun k hk _ => h.block k hk⟩
set_option maxRecDepth 100000 in
set_option maxHeartbeats 1000000 in
theorem ewhole_any (v : Value) (s : ByteArray) (n : Int) (base : Nat) (w : World) (hO : Ow Value.string 9 w base v (pcs s n)) (hs : s.size ≤ 1048576) :
    Calls Try.prog 23 #[v] w fun e w' => e = .returned (.string s) ∧ w.grownBy w' none := by
  have hsl := hO.sl
  rcases hO.shape with ⟨rfl, h0⟩ | ⟨g, cap, rfl, hb, hg, hcs⟩
  · have hz : s = ⟨#[]⟩ := by
      have h1 := pcs_flat s n
      rw [h0] at h1
      rw [← mkB_self s, ← h1]
      rfl
    rw [hz]
    go_enter Try.func23, Try.ntmps23
    go_wp2_with (go_at_call 40; refine (join_nil9 _).mono ?_; rintro e w1 ⟨rfl, rfl⟩)
    go_ret
    exact ⟨rfl, World.grownBy.refl _ _⟩
  · have hlen := pcs_len s n
    have hcap : (pcs s n).length ≤ cap := by obtain ⟨a, c, e, h1, _⟩ := hsl; cases e; exact h1
    have hj : (Lib.join ((pcs s n).map (·.data.toList)) (⟨#[]⟩ : ByteArray).data.toList) = s.data.toList := by
      show Lib.join _ [] = _
      rw [join_flat, pcs_flat]
    have hL : s.data.toList.length = s.size := by rw [Array.length_toList]; rfl
    have hJ := strings_Join g 0 cap (pcs s n) ⟨#[]⟩ w (fun j x hx => by
      obtain ⟨h1, rfl⟩ := List.getElem?_eq_some_iff.1 hx
      rw [Nat.zero_add]
      exact hcs j h1) hg (by omega) hcap (by rw [hj]; omega)
    rw [hj] at hJ
    clear hsl hcs hj hO
    generalize (pcs s n).length = m at *
    go_enter Try.func23, Try.ntmps23
    go_wp2_with (go_at_call 40; refine hJ.mono ?_; rintro e w1 ⟨rfl, hbl⟩)
    go_ret
    exact ⟨by first | rfl | (show Ending.returned (.string (mkB s.data.toList)) = _; rw [mkB_self]), grown_below hbl⟩
end Go.Proofs.Ythopmlgfklhagaa
