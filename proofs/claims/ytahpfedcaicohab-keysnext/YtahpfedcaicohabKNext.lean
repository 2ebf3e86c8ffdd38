/- Contracts, over the turned program: keys.Next and the reference's Next, and what the text that they tell is. Conditions: those that each theorem states. -/
import Derived.Test.YtahpfedcaicohabMkB
import Derived.Test.YtahpfedcaicohabKRead
import Derived.WalkLawsBesides
import Derived.Deep.CutRange
import Derived.Deep.RegionWith
import Derived.Deep.RegionHeldLaw
import Derived.Lib.ConvBytes
namespace Go.Proofs.Ytahpfedcaicohab
open Go.RowKit
set_option linter.unusedVariables false

/-- Behind the first n bytes stand bytes of 255 alone, and the n-th is none. -/
def Nx (s : ByteArray) (n : Nat) : Prop := n ≤ s.size ∧ (∀ i (h : i < s.size), n ≤ i → s[i] = 255) ∧ ∀ (h : n - 1 < s.size), 0 < n → s[n - 1] ≠ 255
theorem Nx.unique {s : ByteArray} {n m : Nat} (h : Nx s n) (h' : Nx s m) : n = m := by
  rcases Nat.lt_trichotomy n m with h1 | h1 | h1
  · exact absurd (h.2.1 (m - 1) (by have := h'.1; omega) (by omega)) (h'.2.2 (by have := h'.1; omega) (by omega))
  · exact h1
  · exact absurd (h'.2.1 (n - 1) (by have := h.1; omega) (by omega)) (h.2.2 (by have := h.1; omega) (by omega))
/-- The text behind, where there is one. -/
def nxB (s : ByteArray) (n : Nat) : List UInt8 := s.data.toList.take (n - 1) ++ [s.data.toList.getD (n - 1) 0 + 1]
theorem getD_at (s : ByteArray) (i : Nat) (h : i < s.size) : s.data.toList.getD i 0 = s[i] := by
  have h2 : i < s.data.toList.length := by simpa using h
  rw [List.getD_eq_getElem?_getD, List.getElem?_eq_getElem h2]
  rfl

/-- A string as bytes of the call's own, of which one is set. -/
theorem bytes_frozen (w : World) (e : TypeId) (s : ByteArray) (j : Nat) (hj : j < s.size) : (Lib.bytesWorld w e s).frozen? ⟨w.heap.size, j, none⟩ = false := by
  unfold World.frozen?
  rw [Lib.bytesWorld_at_new]
  have : s.size ≤ (Lib.bytesCells w e s).size := by simp [Lib.bytesCells]
  simp
  omega
theorem bytes_grown (w : World) (e : TypeId) (s : ByteArray) : w.grownBy (Lib.bytesWorld w e s) none :=
  ⟨rfl, rfl, rfl, by rw [Lib.bytesWorld_size]; omega, fun k hk _ => Lib.bytesWorld_at_old w e s k hk⟩
theorem bytes_set (w : World) (e : TypeId) (s : ByteArray) (m : Nat) (hm : m < s.size) (c : UInt8) (j : Nat) (hj : j < s.size) :
    ((Lib.bytesWorld w e s).setCell ⟨w.heap.size, m, none⟩ (.int .u8 (c.toNat : Int))).cell? ⟨w.heap.size, j, none⟩ = some (.int .u8 (((s.data.toList.set m c).getD j 0).toNat : Int)) := by
  have hl : s.data.toList.length = s.size := by rw [Array.length_toList]; rfl
  by_cases h : m = j
  · subst h
    rw [World.cell?_setCell_same (w := Lib.bytesWorld w e s) (h := Lib.bytesWorld_cell w e s m hj)]
    simp [List.getD_eq_getElem?_getD, hl, hj]
  · have hne : (⟨w.heap.size, m, none⟩ : Addr) ≠ ⟨w.heap.size, j, none⟩ := by
      intro he
      exact h (congrArg Addr.off he)
    rw [World.cell?_setCell_other (h := hne), Lib.bytesWorld_cell w e s j hj]
    simp [List.getD_eq_getElem?_getD, h]
theorem set_grown (w : World) (g m : Nat) (v : Value) : w.grownBy (w.setCell ⟨g, m, none⟩ v) (some g) := ⟨rfl, rfl, rfl, by simp, fun k _ hk => heap_setCell_other w _ k _ (fun hb => hk (by simp [hb]))⟩

theorem next_mem (s : ByteArray) (m : Nat) (hm : m < s.size) (w : World) : ∃ W1 cap,
    (convert 9 35 (.string (s.extract 0 (m + 1)))).run Try.prog w = .ok (.slice (some ⟨w.heap.size, 0, none⟩) (m + 1) cap) W1 ∧ W1.cell? ⟨w.heap.size, m, none⟩ = some (.int .u8 (s[m].toNat : Int)) ∧ W1.frozen? ⟨w.heap.size, m, none⟩ = false ∧
    (convert 35 9 (.slice (some ⟨w.heap.size, 0, none⟩) (m + 1) cap)).run Try.prog (W1.setCell ⟨w.heap.size, m, none⟩ (.int .u8 ((s[m] + 1).toNat : Int))) = .ok (.string (mkB (nxB s (m + 1)))) (W1.setCell ⟨w.heap.size, m, none⟩ (.int .u8 ((s[m] + 1).toNat : Int))) ∧
    w.grownBy (W1.setCell ⟨w.heap.size, m, none⟩ (.int .u8 ((s[m] + 1).toNat : Int))) none := by
  have h2 : m < s.data.toList.length := by simpa using hm
  have hS : (s.extract 0 (m + 1)).size = m + 1 := by rw [ByteArray.size_extract]; omega
  have hcv := Lib.run_convert_string_bytes (P := Try.prog) w 9 35 5 (s.extract 0 (m + 1)) Try.underlying9 Try.underlying35 Try.underlying5
  rw [hS] at hcv
  have hcl := Lib.bytesWorld_cell w 5 (s.extract 0 (m + 1)) m (by omega)
  have hge : (s.extract 0 (m + 1)).data.toList.getD m 0 = s[m] := by
    rw [ext_list, List.drop_zero, Nat.sub_zero, List.getD_eq_getElem?_getD, List.getElem?_take_of_lt (by omega), ← List.getD_eq_getElem?_getD, getD_at s m hm]
  rw [hge] at hcl
  have HB : (s.extract 0 (m + 1)).data.toList.set m (s[m] + 1) = nxB s (m + 1) := by
    unfold nxB
    rw [ext_list, List.drop_zero, Nat.sub_zero, Nat.add_sub_cancel, getD_at s m hm]
    rw [List.take_succ_eq_append_getElem h2]
    have hlen : (s.data.toList.take m).length = m := by rw [List.length_take]; omega
    rw [List.set_append_right _ _ (by omega), hlen]
    simp
  have hnl : (nxB s (m + 1)).length = m + 1 := by
    rw [← HB, List.length_set, ext_list, List.length_take, List.length_drop]
    omega
  refine ⟨Lib.bytesWorld w 5 (s.extract 0 (m + 1)), grownCap w (m + 1) 0 5, hcv, hcl, bytes_frozen w 5 (s.extract 0 (m + 1)) m (by omega), ?_, grown_new (bytes_grown w 5 (s.extract 0 (m + 1))) (set_grown _ w.heap.size m _) (fun k hk => by cases hk; exact Nat.le_refl _)⟩
  have h := run_convert_bytes_back (P := Try.prog) ((Lib.bytesWorld w 5 (s.extract 0 (m + 1))).setCell ⟨w.heap.size, m, none⟩ (.int .u8 ((s[m] + 1).toNat : Int))) 35 9 5 ⟨w.heap.size, 0, none⟩ (grownCap w (m + 1) 0 5) (nxB s (m + 1)) Try.underlying35 Try.underlying5 Try.underlying9 (fun j hj => by
    have h1 := bytes_set w 5 (s.extract 0 (m + 1)) m (by omega) (s[m] + 1) j (by omega)
    rw [HB, List.getD_eq_getElem?_getD, List.getElem?_eq_getElem hj] at h1
    have e : (⟨w.heap.size, 0, none⟩ : Addr).add j = ⟨w.heap.size, j, none⟩ := by unfold Addr.add; split <;> simp_all
    rw [e]
    exact h1)
  rw [hnl] at h
  exact h

set_option maxRecDepth 100000 in
set_option maxHeartbeats 400000 in
theorem next_any (s : ByteArray) (w : World) (hs : s.size ≤ maxLen) :
    Calls Try.prog 5 #[.string s] w fun e w' => (∃ n, Nx s n ∧ ((n = 0 ∧ e = .returned (.tuple #[.string ⟨#[]⟩, .bool false])) ∨ (0 < n ∧ e = .returned (.tuple #[.string (mkB (nxB s n)), .bool true])))) ∧ w.grownBy w' none := by
  unfold maxLen at hs
  go_enter Try.func5, Try.ntmps5
  go_wp2_with fail
  go_loop [4] (fun i => ∃ n : Nat, n ≤ s.size ∧ i = .int .i64 n ∧ Hid (∀ i (h : i < s.size), n ≤ i → s[i] = 255)) (fun i => (intOf i).toNat)
  case atStart => exact ⟨s.size, Nat.le_refl _, rfl, fun i h h' => by omega⟩
  case round =>
    obtain ⟨n, hn, rfl, Hn⟩ := hrel
    rcases Nat.eq_zero_or_pos n with h0 | h0
    · subst h0
      have HX : Hid (Nx s 0) := ⟨Nat.zero_le _, Hn.out, fun _ h => absurd h (by omega)⟩
      go_wp2
      go_ret2
      exact ⟨⟨0, HX.out, .inl ⟨rfl, rfl⟩⟩, World.grownBy.refl _ _⟩
    · obtain ⟨m, rfl⟩ : ∃ m, n = m + 1 := ⟨n - 1, by omega⟩
      have hm : m < s.size := by omega
      have hmi : (m : Int) < (s.size : Int) := by omega
      have em : ((m + 1 : Nat) : Int) - 1 = (m : Int) := by omega
      by_cases hc : s[m] = 255
      · have hc' : ((s[m].toNat : Int) == 255) = true := by simp [hc]
        have HN : Hid (∀ i (h : i < s.size), m ≤ i → s[i] = 255) := by
          intro i h h'
          rcases Nat.eq_or_lt_of_le h' with h2 | h2
          · subst h2; exact hc
          · exact Hn.out i h h2
        clear hc
        go_wp2
        go_round
        case rel => exact ⟨m, by omega, by go_num, HN⟩
        case measure => simp [intOf]
      · have hc' : ((s[m].toNat : Int) == 255) = false := by
          rw [beq_eq_false_iff_ne]
          intro h
          exact hc (UInt8.toNat_inj.1 (by simp; omega))
        have HX : Hid (Nx s (m + 1)) := ⟨hn, Hn.out, fun _ _ => by simpa using hc⟩
        obtain ⟨W1, cap, hcv, hcl, hfz, hcb, hgr⟩ := next_mem s m hm w
        have hadd : ((s[m] + 1).toNat : Int) = ((s[m].toNat : Int) + 1) % 256 := by
          rw [UInt8.toNat_add]
          simp
        rw [hadd] at hcb hgr
        clear hadd hc
        generalize w.heap.size = g at *
        go_wp2
        go_ret2
        exact ⟨⟨m + 1, HX.out, .inr ⟨by omega, rfl⟩⟩, hgr⟩

set_option maxRecDepth 100000 in
set_option maxHeartbeats 400000 in
theorem rnext_any (s : ByteArray) (w : World) (hs : s.size ≤ maxLen) :
    Calls Try.prog 6 #[.string s] w fun e w' => (∃ n, Nx s n ∧ ((n = 0 ∧ e = .returned (.tuple #[.string ⟨#[]⟩, .bool false])) ∨ (0 < n ∧ e = .returned (.tuple #[.string (mkB (nxB s n)), .bool true])))) ∧ w.grownBy w' none := by
  unfold maxLen at hs
  go_enter Try.func6, Try.ntmps6
  go_wp2_with fail
  go_loop [4] (fun i => ∃ n : Nat, n ≤ s.size ∧ i = .int .i64 ((n : Int) - 1) ∧ Hid (∀ i (h : i < s.size), n ≤ i → s[i] = 255)) (fun i => (intOf i + 1).toNat)
  case atStart => exact ⟨s.size, Nat.le_refl _, rfl, fun i h h' => by omega⟩
  case round =>
    obtain ⟨n, hn, rfl, Hn⟩ := hrel
    rcases Nat.eq_zero_or_pos n with h0 | h0
    · subst h0
      have HX : Hid (Nx s 0) := ⟨Nat.zero_le _, Hn.out, fun _ h => absurd h (by omega)⟩
      go_wp2
      go_ret2
      exact ⟨⟨0, HX.out, .inl ⟨rfl, rfl⟩⟩, World.grownBy.refl _ _⟩
    · obtain ⟨m, rfl⟩ : ∃ m, n = m + 1 := ⟨n - 1, by omega⟩
      have hm : m < s.size := by omega
      have hmi : (m : Int) < (s.size : Int) := by omega
      have em : ((m + 1 : Nat) : Int) - 1 = (m : Int) := by omega
      rw [em]
      by_cases hc : s[m] = 255
      · have hc' : ((s[m].toNat : Int) == 255) = true := by simp [hc]
        have HN : Hid (∀ i (h : i < s.size), m ≤ i → s[i] = 255) := by
          intro i h h'
          rcases Nat.eq_or_lt_of_le h' with h2 | h2
          · subst h2; exact hc
          · exact Hn.out i h h2
        clear hc
        go_wp2
        go_round
        case rel => exact ⟨m, by omega, by go_num, HN⟩
        case measure => simp [intOf]
      · have hc' : ((s[m].toNat : Int) == 255) = false := by
          rw [beq_eq_false_iff_ne]
          intro h
          exact hc (UInt8.toNat_inj.1 (by simp; omega))
        have HX : Hid (Nx s (m + 1)) := ⟨hn, Hn.out, fun _ _ => by simpa using hc⟩
        clear em h0
        go_upto_region 5 with fail
        have dr : w.grownBy w.drew none := ⟨rfl, rfl, rfl, Nat.le_refl _, fun _ _ _ => rfl⟩
        have hadd : IntKind.u8.wrap ((s[m].toNat : Int) + 1) = ((s[m] + 1).toNat : Int) := by
          rw [IntKind.wrap_u8, UInt8.toNat_add]
          simp
        have hcv : (convert 35 9 (.slice (some ⟨w.heap.size, 0, none⟩) 1 1)).run Try.prog (w.alloc (.cells #[.int .u8 (IntKind.u8.wrap ((s[m].toNat : Int) + 1))] 5)).drew = .ok (.string (mkB [s[m] + 1])) (w.alloc (.cells #[.int .u8 (IntKind.u8.wrap ((s[m].toNat : Int) + 1))] 5)).drew := by
          rw [hadd]
          exact run_convert_bytes_back (P := Try.prog) _ 35 9 5 ⟨w.heap.size, 0, none⟩ 1 [s[m] + 1] Try.underlying35 Try.underlying5 Try.underlying9 (fun j hj => by
            obtain rfl : j = 0 := by simpa using hj
            simp [Addr.add])
        clear hadd
        obtain ⟨T, HT⟩ : ∃ T : ByteArray, Hid (T = mkB [s[m] + 1]) := ⟨mkB [s[m] + 1], rfl⟩
        rw [← HT.out] at hcv
        have hcv2 := hcv
        rw [IntKind.wrap_u8] at hcv2
        have hT : T.size = 1 := by rw [HT.out]; rfl
        have HF : Hid (s.extract 0 m ++ T = mkB (nxB s (m + 1))) := by
          show _ = _
          rw [HT.out]
          apply ByteArray.ext
          apply Array.ext'
          rw [ByteArray.data_append, Array.toList_append, ext_list, mkB_list, mkB_list]
          unfold nxB
          rw [Nat.add_sub_cancel, getD_at s m hm]
          simp
        have t1 : ¬ 9223372036854775807 < min m s.size + T.size := by omega
        go_region_held_law (fun w' => w.grownBy w' none) (first | assumption | exact dr | exact grown_up (by assumption) (World.grownBy_alloc _ _ _)) (fail)
        all_goals
          go_wp2
          go_ret2
          refine ⟨⟨m + 1, HX.out, .inr ⟨by omega, ?_⟩⟩, grown_up (World.grownBy_alloc _ _ _) ⟨rfl, rfl, rfl, Nat.le_refl _, fun _ _ _ => rfl⟩⟩
          rw [← HF.out]
          rfl

end Go.Proofs.Ytahpfedcaicohab
