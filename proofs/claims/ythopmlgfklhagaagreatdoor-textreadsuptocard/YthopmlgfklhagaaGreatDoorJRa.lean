/- Contracts, over the turned program: the document's names of the Ops, and its digits of sixteen. Conditions: those that each theorem states. -/
import Derived.Test.YthopmlgfklhagaaGreatDoorJLine
import Derived.Test.YthopmlgfklhagaaGreatDoorIRw
import Derived.Test.YthopmlgfklhagaaGreatDoorIApp
namespace Go.Proofs.YthopmlgfklhagaaGreatDoor
open Go.RowKit
set_option linter.unusedVariables false

def nmC : Array Value := (nmL.map (fun l => Value.string (mkB l))).toArray
theorem nm_cell (w : World) (k : Nat) (h : k < 19) : (w.alloc (.cells nmC 9)).cell? ⟨w.heap.size, k, none⟩ = some (.string (mkB (nmL.getD k []))) := by
  rw [cell_of_row _ _ k _ _ _ (heap_alloc_new w (.cells nmC 9))]
  have key : ∀ k : Nat, k < 19 → nmL[k]? = some (nmL.getD k []) := by decide
  unfold nmC
  rw [List.getElem?_toArray, List.getElem?_map, key k h]
  rfl

set_option maxRecDepth 100000 in
set_option maxHeartbeats 400000 in
theorem rnames_any (w : World) :
    Calls Tryz.prog 28 #[] w fun e w' => e = .returned (.slice (some ⟨w.heap.size, 0, none⟩) 19 19) ∧ w' = w.alloc (.cells nmC 9) := by
  go_enter Tryz.func28, Tryz.ntmps28
  go_wp2
  go_ret
  exact ⟨rfl, rfl⟩

set_option maxRecDepth 100000 in
set_option maxHeartbeats 400000 in
theorem rname_any (op : Int) (w : World) (h0 : -9223372036854775808 ≤ op) (h1 : op < 9223372036854775808) :
    Calls Tryz.prog 29 #[.int .i64 op] w fun e w' => e = .returned (.string (mkB (nameB op))) ∧ w.grownBy w' none := by
  by_cases h2 : op < 1
  · have e1 : nameB op = [] := by unfold nameB opOk; rw [decide_eq_false (by omega)]; rfl
    rw [e1]
    clear e1
    go_enter Tryz.func29, Tryz.ntmps29
    go_wp2
    go_ret
    exact ⟨rfl, World.grownBy.refl _ _⟩
  · by_cases h3 : 19 < op
    · have e1 : nameB op = [] := by unfold nameB opOk; rw [decide_eq_false (by omega)]; rfl
      rw [e1]
      clear e1
      go_enter Tryz.func29, Tryz.ntmps29
      go_wp2_with (go_at_call 28; refine (rnames_any _).mono ?_; rintro e w1 ⟨rfl, rfl⟩)
      go_ret
      exact ⟨rfl, World.grownBy_alloc _ _ _⟩
    · have e1 : nameB op = nmL.getD (op.toNat - 1) [] := by unfold nameB opOk; rw [decide_eq_true (by omega), if_pos rfl]
      rw [e1]
      clear e1
      obtain ⟨m, rfl⟩ : ∃ m : Nat, op = (m : Int) + 1 := ⟨(op - 1).toNat, by omega⟩
      have hm : m < 19 := by omega
      have e2 : ((m : Int) + 1).toNat - 1 = m := by omega
      rw [e2]
      clear e2
      have hc := nm_cell (w.alloc (.cells nmC 9)) m hm
      have Hn := hide rnames_any
      have Hg := hide (grown_trans (World.grownBy_alloc w (.cells nmC 9) none) (World.grownBy_alloc _ (.cells nmC 9) none) (.inl rfl))
      obtain ⟨X, HX⟩ : ∃ X, Hid (mkB (nmL.getD m []) = X) := ⟨_, rfl⟩
      rw [HX.out] at hc ⊢
      obtain ⟨C, HC⟩ : ∃ C, Hid (nmC = C) := ⟨_, rfl⟩
      rw [HC.out] at hc Hn Hg
      clear h0 h1 h2 h3
      clear HX HC
      rw [show (w.alloc (.cells C 9)).heap.size = w.heap.size + 1 by simp] at hc
      go_enter Tryz.func29, Tryz.ntmps29
      go_wp2_with (go_at_call 28; refine (Hn.out _).mono ?_; rintro e w1 ⟨rfl, rfl⟩)
      go_ret
      exact ⟨rfl, Hg.out⟩

theorem dig_const : ∀ n : Nat, n < 16 → (⟨#[48, 49, 50, 51, 52, 53, 54, 55, 56, 57, 97, 98, 99, 100, 101, 102]⟩ : ByteArray).extract n (n + 1) = mkB [hexD n] := by
  decide +kernel

set_option maxRecDepth 100000 in
set_option maxHeartbeats 400000 in
theorem rdigit_any (n : Nat) (w : World) (h : n < 16) :
    Calls Tryz.prog 69 #[.int .i64 n] w fun e w' => e = .returned (.string (mkB [hexD n])) ∧ w' = w := by
  have Hd := hide (dig_const n h)
  go_enter Tryz.func69, Tryz.ntmps69
  go_wp2
  go_ret
  refine ⟨?_, rfl⟩
  rw [← Hd.out]
  rfl

/-- A digit's number, or -1. -/
def nibI (c : UInt8) : Int := match nibU c with | some n => n | none => -1
theorem nib_hit (c : UInt8) (k : Nat) (hk : k < 16) (h : hexD k = c) : nibI c = k := by
  unfold nibI
  rw [← h, nib_hex hk]
theorem nib_no (c : UInt8) (h : ∀ k, k < 16 → hexD k ≠ c) : nibI c = -1 := by
  unfold nibI
  cases hn : nibU c with
  | none => rfl
  | some n => exact absurd (hex_nib hn).1 (h n (hex_nib hn).2)
theorem textEqJ (a b : ByteArray) : (a.toList == b.toList) = decide (a = b) := by
  rw [Bool.eq_iff_iff, beq_iff_eq, decide_eq_true_iff, ByteArray.toList_eq, ByteArray.toList_eq]
  exact ⟨fun h => ByteArray.ext (Array.toList_inj.1 h), fun h => by rw [h]⟩
theorem beq_one (a c : UInt8) : ((mkB [a]).toList == (mkB [c]).toList) = decide (a = c) := by
  rw [textEqJ, decide_eq_decide]
  constructor
  · intro h
    have h2 : (mkB [a]).data = (mkB [c]).data := by rw [h]
    have h3 : #[a] = #[c] := h2
    simpa using h3
  · intro h; rw [h]
theorem grown_drew (w : World) : w.grownBy w.drew none := ⟨rfl, rfl, rfl, Nat.le_refl _, fun _ _ _ => rfl⟩
theorem conv_one (wr : World) (c : UInt8) : (convert 45 9 (.slice (some ⟨wr.heap.size, 0, none⟩) 1 1)).run Tryz.prog (wr.alloc (.cells #[.int .u8 (c.toNat : Int)] 5)).drew = .ok (.string (mkB [c])) (wr.alloc (.cells #[.int .u8 (c.toNat : Int)] 5)).drew := by
  exact run_convert_bytes_back (P := Tryz.prog) _ 45 9 5 ⟨wr.heap.size, 0, none⟩ 1 [c] Tryz.underlying45 Tryz.underlying5 Tryz.underlying9 (fun j hj => by
    obtain rfl : j = 0 := by simpa using hj
    rw [addr_plainI]
    simp)

set_option maxRecDepth 100000 in
set_option maxHeartbeats 400000 in
theorem rnibble_any (c : UInt8) (w : World) :
    Calls Tryz.prog 50 #[.int .u8 c.toNat] w fun e w' => e = .returned (.int .i64 (nibI c)) ∧ w.grownBy w' none := by
  have HB : Hid (∀ k : Nat, (∀ j, j < k → j < 16 → hexD j ≠ c) → k = 16 → nibI c = -1) := by
    intro k h hk
    exact nib_no c (fun j hj => h j (by omega) hj)
  have HH := hide (nib_hit c)
  obtain ⟨I, HI⟩ : ∃ I, Hid (nibI c = I) := ⟨_, rfl⟩
  rw [HI.out] at HB HH ⊢
  have hcl := c.toNat_lt
  go_enter Tryz.func50, Tryz.ntmps50
  go_wp2_with fail
  go_loopw [3] (fun i wr => ∃ k : Nat, k ≤ 16 ∧ i = .int .i64 k ∧ Hid (∀ j, j < k → j < 16 → hexD j ≠ c) ∧ w.grownBy wr none) (fun i _ => 16 - (intOf i).toNat)
  case atStart => exact ⟨0, Nat.zero_le _, rfl, fun j hj => absurd hj (by omega), World.grownBy.refl _ _⟩
  case round =>
    obtain ⟨k, hk, rfl, HK, hg⟩ := hrel
    by_cases hlt : k < 16
    · have hki : (k : Int) < 16 := by omega
      have Hk1 : Hid (∀ w : World, Calls Tryz.prog 69 #[.int .i64 k] w fun e w' => e = .returned (.string (mkB [hexD k])) ∧ w' = w) := fun w => rdigit_any k w hlt
      have Hbe := hide (beq_one (hexD k) c)
      have hcv := conv_one wr c
      by_cases hh : hexD k = c
      · have Hr : Hid (I = (k : Int)) := HH.out k hlt hh
        have hb : ((mkB [hexD k]).toList == (mkB [c]).toList) = true := Hbe.out.trans (decide_eq_true hh)
        clear hh
        obtain ⟨X, HX⟩ : ∃ X, Hid (mkB [hexD k] = X) := ⟨_, rfl⟩
        obtain ⟨Y, HY⟩ : ∃ X, Hid (mkB [c] = X) := ⟨_, rfl⟩
        rw [HX.out] at hb Hk1
        rw [HY.out] at hb hcv
        go_upto_region 4 with fail
        go_region_with (go_at_call 69; refine (Hk1.out _).mono ?_; rintro e w' ⟨rfl, rfl⟩)
        all_goals go_wp2
        all_goals go_ret
        all_goals exact ⟨congrArg (fun x => Ending.returned (Value.int .i64 x)) Hr.out.symm, grown_up hg (grown_up (World.grownBy_alloc _ _ _) (grown_drew _))⟩
      · have hb : ((mkB [hexD k]).toList == (mkB [c]).toList) = false := Hbe.out.trans (decide_eq_false hh)
        have HK2 : Hid (∀ j, j < k + 1 → j < 16 → hexD j ≠ c) := by
          intro j hj hj2
          rcases Nat.lt_or_ge j k with h1 | h1
          · exact HK.out j h1 hj2
          · obtain rfl : j = k := by omega
            exact hh
        clear hh
        obtain ⟨X, HX⟩ : ∃ X, Hid (mkB [hexD k] = X) := ⟨_, rfl⟩
        obtain ⟨Y, HY⟩ : ∃ X, Hid (mkB [c] = X) := ⟨_, rfl⟩
        rw [HX.out] at hb Hk1
        rw [HY.out] at hb hcv
        go_upto_region 4 with fail
        go_region_with (go_at_call 69; refine (Hk1.out _).mono ?_; rintro e w' ⟨rfl, rfl⟩)
        all_goals go_wp2
        all_goals go_roundw
        all_goals first
          | (simp [intOf]; omega)
          | exact ⟨k + 1, by omega, by go_num, HK2.out, grown_up hg (grown_up (World.grownBy_alloc _ _ _) (grown_drew _))⟩
    · have Hr : Hid (I = -1) := HB.out k HK.out (by omega)
      go_wp2
      go_ret
      exact ⟨congrArg (fun x => Ending.returned (Value.int .i64 x)) Hr.out.symm, hg⟩

end Go.Proofs.YthopmlgfklhagaaGreatDoor
