import Derived.Test.YthopmlgfklhagabDoorHTab
import Derived.RangeFuncNested
import Derived.RangeFuncBound
import Derived.RangeFuncCalls
import Derived.RangeFuncLeaves
import Derived.RangeFuncBox
import Derived.Shelf.Abstract
import Derived.Shelf.RegionOpen
import Derived.WalkKit
import Derived.OwnWalkIn
import Derived.TacticsInMore
import Derived.LoopNIn
import Derived.LoopIn
import Derived.Maps.AppendAt
namespace Go.Proofs.YthopmlgfklhagabDoor
open Go.RowKit
set_option linter.unusedVariables false

set_option maxHeartbeats 400000 in
theorem back_any (a : Option Addr) (n c : Nat) (w : World) :
    Calls Tryd.prog 15 #[.slice a n c] w fun e w' => e = .returned (.func (.func 25) #[] #[.pointer (some ⟨w.heap.size, 0, none⟩)]) ∧ w' = w.alloc (.cells #[.slice a n c] 28) := by
  go_enter Tryd.func15, Tryd.ntmps15
  go_wp2
  go_ret
  exact ⟨rfl, rfl⟩

/-- All places of n, and those from the last one down to one. -/
def AllI (n : Nat) (ys : List Nat) : Prop := ∀ j, j < n → j ∈ ys
def SomeI (n : Nat) (pre : List Nat) : Prop := ∃ q i, pre = q ++ [i] ∧ i < n ∧ ∀ j, i < j → j < n → j ∈ q
theorem Below.toGrown {w w' : World} (h : Below w.heap.size w w') : w.grownBy w' none := ⟨h.os, h.tape, h.output, h.size, fun k hk _ => h.block k hk⟩

section
attribute [local go_sem] Oper.semAt_some
set_option maxRecDepth 100000 in
set_option maxHeartbeats 1000000 in
theorem back1_in (n : Nat) (hn : 1 ≤ n) (l Bn n₀ B0 : Nat) (a0 : Option Addr) (c0 : Nat) (t : List Wr) (w : World) (hR : Rw Wr.cells 7 w (.slice a0 t.length c0) t) (hw : w.heap.size ≤ n₀) (hB0 : Bn < n₀) (J Jx : List Nat → World → Prop) (hJ : AbidesFrom B0 J)
    (hY : ∀ (pre : List Nat) (x : Nat) (W : World), J pre W → pre.length < t.length → YieldAt Fence.wide (n - 1) Tryd.prog l #[.int .i64 (x : Int), (t.getD x dW).val] W fun e W' =>
      (e = .returned (.bool true) ∧ J (pre ++ [x]) W' ∧ Below n₀ W W') ∨ (e = .returned (.bool false) ∧ Jx (pre ++ [x]) W'))
    (W : World) (hW : Below w.heap.size w W) (hBn : W.cell? ⟨Bn, 0, none⟩ = some (.slice a0 t.length c0)) (h0 : J [] W) :
    CallsIn Fence.wide n Tryd.prog 25 #[.func (.yield l) #[] #[], .pointer (some ⟨Bn, 0, none⟩)] W fun e W' => (∃ v, e = .returned v) ∧
      ((∃ ys, AllI t.length ys ∧ J ys W') ∨ (∃ pre, SomeI t.length pre ∧ Jx pre W')) := by
  obtain ⟨sa, sc, hse, hcap, hsz, hel⟩ := hR
  cases hse
  have hlm : (t.length : Int) ≤ 9223372036854775807 := by have := hcap; have := hsz; unfold maxLen at *; omega
  have H3 := hide hel
  clear hel hcap hsz
  have hw1 : wrap64 ((t.length : Int) - 1) = (t.length : Int) - 1 := by unfold wrap64; omega
  refine callsIn_of_wp Tryd.func25 rfl trivial ?_ rfl
  simp only [Tryd.ntmps25, List.size_toArray, List.length_cons, List.length_nil, Nat.reduceAdd, Nat.reduceSub, Array.replicate_succ, Array.replicate_zero, List.push_toArray, List.append_toArray, List.nil_append, List.cons_append]
  gi_wp2
  gi_loopw [3] (fun ir wr => ∃ (pre : List Nat) (m : Nat) (z : Int), ir = .int .i64 z ∧ z = (m : Int) - 1 ∧ pre.length + m = t.length ∧ Hid (∀ j, m ≤ j → j < t.length → j ∈ pre) ∧ J pre wr ∧ Below w.heap.size w wr ∧ wr.cell? ⟨Bn, 0, none⟩ = some (.slice a0 t.length c0))
    (fun ir _ => (intOf ir + 1).toNat)
  case atStart =>
    exact ⟨[], t.length, _, rfl, rfl, by simp, fun j h1 h2 => by omega, h0, hW, hBn⟩
  case round =>
    obtain ⟨pre, m, z, rfl, hz, hlen, HX, hJs, hBw, hcB⟩ := hrel
    rcases m with _ | m
    · obtain rfl : z = -1 := by omega
      clear hz hlen
      gi_wp2
      go_end0
      exact ⟨⟨_, rfl⟩, .inl ⟨pre, fun j hj => HX.out j (Nat.zero_le _) hj, hJs⟩⟩
    · obtain rfl : z = (m : Int) := by omega
      have hm : m < t.length := by omega
      obtain ⟨b, off, hai, hb, hcb⟩ := H3.out m hm
      have hgr := Below.toGrown hBw
      obtain ⟨x, hx⟩ : ∃ x, t[m] = x := ⟨_, rfl⟩
      have Hx : Hid (t.getD m dW = x) := by show _ = _; rw [← hx]; exact getD_lt t m dW hm
      rw [hx] at hcb
      have i0 : wr.cell? ⟨b, off + m * 7, none⟩ = some (.int .i64 x.k.k) := cell_g (hcb 0 _ rfl) hgr
      have i1 := cell_g (hcb 1 _ rfl) hgr
      have i2 := cell_g (hcb 2 _ rfl) hgr
      have i3 := cell_g (hcb 3 _ rfl) hgr
      have i4 := cell_g (hcb 4 _ rfl) hgr
      have i5 := cell_g (hcb 5 _ rfl) hgr
      have i6 := cell_g (hcb 6 _ rfl) hgr
      have Hlt : Hid (pre.length < t.length) := by show _ < _; omega
      have hmi : (m : Int) < (t.length : Int) := by omega
      have hm0 : (0 : Int) ≤ (m : Int) := by omega
      obtain ⟨fn, tmps, assign, body, hy, hRy⟩ := hY pre m wr hJs Hlt.out
      rw [Hx.out] at hy
      unfold Wr.val at hy
      subst hai
      clear hcb
      have Hlen := hide hlen
      clear hz hlen hx
      have hwm : wrap64 ((m : Int) - 1) = (m : Int) - 1 := by unfold wrap64; omega
      have HRy := hide hRy
      clear hRy
      gi_wp2
      refine HRy.out.mono ?_
      rintro e W3 (⟨rfl, hJ3, hk3⟩ | ⟨rfl, hJx3⟩)
      · have hB3 := hBw.trans (hk3.mono hw)
        have hc3 := (hk3.cell (p := ⟨Bn, 0, none⟩) hB0).trans hcB
        have HX2 : Hid (∀ j, m ≤ j → j < t.length → j ∈ pre ++ [m]) := fun j h1 h2 => by
          rcases Nat.lt_or_ge m j with h | h
          · exact List.mem_append_left _ (HX.out j h h2)
          · obtain rfl : j = m := by omega
            simp
        gi_wp2
        go_roundw
        case rel => exact ⟨pre ++ [m], m, _, rfl, rfl, by have := Hlen.out; rw [List.length_append, List.length_singleton]; omega, HX2, hJ3, hB3, hc3⟩
        case measure => simp [intOf]
      · gi_wp2
        refine bodyPost_ret (results_none rfl _ _ _) rfl ?_
        exact ⟨⟨_, rfl⟩, .inr ⟨_, ⟨pre, m, rfl, hm, fun j h1 h2 => HX.out j h1 h2⟩, hJx3⟩⟩
end

end Go.Proofs.YthopmlgfklhagabDoor
