/- Contracts, over the turned program: a table's entries from the last one to the first, a range over a function. Conditions: those that each theorem states. Contract, over the turned program: what entries have of a key, as the document reads them. Conditions: those that each theorem states. Contract, over the turned program: what a table's Look tells. No conditions. -/
import Derived.Test.YthopmlgfklhagabDoorHTab
import Derived.RangeFuncNested
import Derived.RangeFuncBound
import Derived.RangeFuncCalls
import Derived.RangeFuncLeaves
import Derived.RangeFuncBox
import Derived.Shelf.Abstract
import Derived.Shelf.RegionOpen
import Derived.WalkKit
import Derived.OwnWalkIn
import Derived.TacticsInMore
import Derived.LoopNIn
import Derived.LoopIn
import Derived.Maps.AppendAt
import Derived.Test.YthopmlgfklhagabDoorHDk
import Derived.Test.YthopmlgfklhagabDoorHJm
import Derived.Test.YthopmlgfklhagabDoorHJa
namespace Go.Proofs.YthopmlgfklhagabDoor
open Go.RowKit
set_option linter.unusedVariables false

set_option maxHeartbeats 400000 in
theorem back_any (a : Option Addr) (n c : Nat) (w : World) :
    Calls Tryd.prog 15 #[.slice a n c] w fun e w' => e = .returned (.func (.func 25) #[] #[.pointer (some ⟨w.heap.size, 0, none⟩)]) ∧ w' = w.alloc (.cells #[.slice a n c] 28) := by
  go_enter Tryd.func15, Tryd.ntmps15
  go_wp2
  go_ret
  exact ⟨rfl, rfl⟩

/-- All places of n, and those from the last one down to one. -/
def AllI (n : Nat) (ys : List Nat) : Prop := ∀ j, j < n → j ∈ ys
def SomeI (n : Nat) (pre : List Nat) : Prop := ∃ q i, pre = q ++ [i] ∧ i < n ∧ ∀ j, i < j → j < n → j ∈ q
theorem Below.toGrown {w w' : World} (h : Below w.heap.size w w') : w.grownBy w' none := ⟨h.os, h.tape, h.output, h.size, fun k hk _ => h.block k hk⟩

section
attribute [local go_sem] Oper.semAt_some
set_option maxRecDepth 100000 in
set_option maxHeartbeats 1000000 in
theorem back1_in (n : Nat) (hn : 1 ≤ n) (l Bn n₀ B0 : Nat) (a0 : Option Addr) (c0 : Nat) (t : List Wr) (w : World) (hR : Rw Wr.cells 7 w (.slice a0 t.length c0) t) (hw : w.heap.size ≤ n₀) (hB0 : Bn < n₀) (J Jx : List Nat → World → Prop) (hJ : AbidesFrom B0 J)
    (hY : ∀ (pre : List Nat) (x : Nat) (W : World), J pre W → pre.length < t.length → YieldAt Fence.wide (n - 1) Tryd.prog l #[.int .i64 (x : Int), (t.getD x dW).val] W fun e W' =>
      (e = .returned (.bool true) ∧ J (pre ++ [x]) W' ∧ Below n₀ W W') ∨ (e = .returned (.bool false) ∧ Jx (pre ++ [x]) W'))
    (W : World) (hW : Below w.heap.size w W) (hBn : W.cell? ⟨Bn, 0, none⟩ = some (.slice a0 t.length c0)) (h0 : J [] W) :
    CallsIn Fence.wide n Tryd.prog 25 #[.func (.yield l) #[] #[], .pointer (some ⟨Bn, 0, none⟩)] W fun e W' => (∃ v, e = .returned v) ∧
      ((∃ ys, AllI t.length ys ∧ J ys W') ∨ (∃ pre, SomeI t.length pre ∧ Jx pre W')) := by
  obtain ⟨sa, sc, hse, hcap, hsz, hel⟩ := hR
  cases hse
  have hlm : (t.length : Int) ≤ 9223372036854775807 := by have := hcap; have := hsz; unfold maxLen at *; omega
  have H3 := hide hel
  clear hel hcap hsz
  have hw1 : wrap64 ((t.length : Int) - 1) = (t.length : Int) - 1 := by unfold wrap64; omega
  refine callsIn_of_wp Tryd.func25 rfl trivial ?_ rfl
  simp only [Tryd.ntmps25, List.size_toArray, List.length_cons, List.length_nil, Nat.reduceAdd, Nat.reduceSub, Array.replicate_succ, Array.replicate_zero, List.push_toArray, List.append_toArray, List.nil_append, List.cons_append]
  gi_wp2
  gi_loopw [3] (fun ir wr => ∃ (pre : List Nat) (m : Nat) (z : Int), ir = .int .i64 z ∧ z = (m : Int) - 1 ∧ pre.length + m = t.length ∧ Hid (∀ j, m ≤ j → j < t.length → j ∈ pre) ∧ J pre wr ∧ Below w.heap.size w wr ∧ wr.cell? ⟨Bn, 0, none⟩ = some (.slice a0 t.length c0))
    (fun ir _ => (intOf ir + 1).toNat)
  case atStart =>
    exact ⟨[], t.length, _, rfl, rfl, by simp, fun j h1 h2 => by omega, h0, hW, hBn⟩
  case round =>
    obtain ⟨pre, m, z, rfl, hz, hlen, HX, hJs, hBw, hcB⟩ := hrel
    rcases m with _ | m
    · obtain rfl : z = -1 := by omega
      clear hz hlen
      gi_wp2
      go_end0
      exact ⟨⟨_, rfl⟩, .inl ⟨pre, fun j hj => HX.out j (Nat.zero_le _) hj, hJs⟩⟩
    · obtain rfl : z = (m : Int) := by omega
      have hm : m < t.length := by omega
      obtain ⟨b, off, hai, hb, hcb⟩ := H3.out m hm
      have hgr := Below.toGrown hBw
      obtain ⟨x, hx⟩ : ∃ x, t[m] = x := ⟨_, rfl⟩
      have Hx : Hid (t.getD m dW = x) := by show _ = _; rw [← hx]; exact getD_lt t m dW hm
      rw [hx] at hcb
      have i0 : wr.cell? ⟨b, off + m * 7, none⟩ = some (.int .i64 x.k.k) := cell_g (hcb 0 _ rfl) hgr
      have i1 := cell_g (hcb 1 _ rfl) hgr
      have i2 := cell_g (hcb 2 _ rfl) hgr
      have i3 := cell_g (hcb 3 _ rfl) hgr
      have i4 := cell_g (hcb 4 _ rfl) hgr
      have i5 := cell_g (hcb 5 _ rfl) hgr
      have i6 := cell_g (hcb 6 _ rfl) hgr
      have Hlt : Hid (pre.length < t.length) := by show _ < _; omega
      have hmi : (m : Int) < (t.length : Int) := by omega
      have hm0 : (0 : Int) ≤ (m : Int) := by omega
      obtain ⟨fn, tmps, assign, body, hy, hRy⟩ := hY pre m wr hJs Hlt.out
      rw [Hx.out] at hy
      unfold Wr.val at hy
      subst hai
      clear hcb
      have Hlen := hide hlen
      clear hz hlen hx
      have hwm : wrap64 ((m : Int) - 1) = (m : Int) - 1 := by unfold wrap64; omega
      have HRy := hide hRy
      clear hRy
      gi_wp2
      refine HRy.out.mono ?_
      rintro e W3 (⟨rfl, hJ3, hk3⟩ | ⟨rfl, hJx3⟩)
      · have hB3 := hBw.trans (hk3.mono hw)
        have hc3 := (hk3.cell (p := ⟨Bn, 0, none⟩) hB0).trans hcB
        have HX2 : Hid (∀ j, m ≤ j → j < t.length → j ∈ pre ++ [m]) := fun j h1 h2 => by
          rcases Nat.lt_or_ge m j with h | h
          · exact List.mem_append_left _ (HX.out j h h2)
          · obtain rfl : j = m := by omega
            simp
        gi_wp2
        go_roundw
        case rel => exact ⟨pre ++ [m], m, _, rfl, rfl, by have := Hlen.out; rw [List.length_append, List.length_singleton]; omega, HX2, hJ3, hB3, hc3⟩
        case measure => simp [intOf]
      · gi_wp2
        refine bodyPost_ret (results_none rfl _ _ _) rfl ?_
        exact ⟨⟨_, rfl⟩, .inr ⟨_, ⟨pre, m, rfl, hm, fun j h1 h2 => HX.out j h1 h2⟩, hJx3⟩⟩
end

end Go.Proofs.YthopmlgfklhagabDoor

namespace Go.Proofs.YthopmlgfklhagabDoor
open Go.RowKit
set_option linter.unusedVariables false

/-- What the loop has found so far. -/
def LkP (t : List Wr) (k : V) (j : Nat) (y : V) : Prop := ∀ u, lookT (t.take j) k = some u → u = y
set_option maxRecDepth 100000 in
set_option maxHeartbeats 2000000 in
theorem rlook_any (v : Value) (t : List Wr) (k : V) (w : World) (hR : Rw Wr.cells 7 w v t) :
    Calls Tryd.prog 7 #[v, k.val] w fun e w' => e = .returned (.tuple #[(obV (lookT t k)).val, .bool (lookT t k).isSome]) ∧ w.grownBy w' none := by
  obtain ⟨a, c, rfl, h1, h2, h3⟩ := hR
  have hlm : (t.length : Int) ≤ 9223372036854775807 := by unfold maxLen at h2; omega
  have H3 := hide h3
  clear h1 h2 h3
  obtain ⟨o, HO⟩ : ∃ o, Hid (lookT t k = o) := ⟨_, rfl⟩
  rw [HO.out]
  have hA := World.grownBy_alloc w (.cells #[.int .i64 k.k, .int .i64 k.n, .string k.s] 25) none
  have hK := Vb.new w k
  have hs1 : (w.alloc (.cells #[.int .i64 k.k, .int .i64 k.n, .string k.s] 25)).heap.size = w.heap.size + 1 := World.size_alloc _ _
  unfold V.val
  go_enter Tryd.func7, Tryd.ntmps7
  go_upto_region 1 with fail
  generalize w.alloc (.cells #[.int .i64 k.k, .int .i64 k.n, .string k.s] 25) = W1 at *
  have hB := World.grownBy_alloc W1 (.cells #[.int .i64 0, .int .i64 0, .string ⟨#[]⟩] 25) none
  have hR1 := Vb.new W1 ⟨0, 0, ⟨#[]⟩⟩
  have hs2 : (W1.alloc (.cells #[.int .i64 0, .int .i64 0, .string ⟨#[]⟩] 25)).heap.size = w.heap.size + 1 + 1 := by rw [World.size_alloc, hs1]
  have hC := World.grownBy_alloc (W1.alloc (.cells #[.int .i64 0, .int .i64 0, .string ⟨#[]⟩] 25)) (.cells #[.int .i64 0, .int .i64 0, .string ⟨#[]⟩] 25) none
  have hY := Vb.new (W1.alloc (.cells #[.int .i64 0, .int .i64 0, .string ⟨#[]⟩] 25)) ⟨0, 0, ⟨#[]⟩⟩
  rw [hs2] at hY
  rw [hs1] at hR1
  dsimp only at hR1 hY
  have hK3 := (hK.kept hB (by simp)).kept hC (by simp)
  have hR3 := hR1.kept hC (by simp)
  have hg3 := grown_up (grown_up hA hB) hC
  go_upto_region 2 with fail
  clear hA hB hC hK hR1 hs1 hs2
  generalize (W1.alloc (.cells #[.int .i64 0, .int .i64 0, .string ⟨#[]⟩] 25)).alloc (.cells #[.int .i64 0, .int .i64 0, .string ⟨#[]⟩] 25) = W3 at *
  go_wp2_with fail
  go_loopw [7, 8] (fun b i wr => ∃ (j : Nat) (y : V), j ≤ t.length ∧ i = .int .i64 (j : Int) ∧ b = .bool (lookT (t.take j) k).isSome ∧ Vb wr w.heap.size k ∧ Vb wr (w.heap.size + 1) ⟨0, 0, ⟨#[]⟩⟩ ∧ Vb wr (w.heap.size + 1 + 1) y ∧ w.grownBy wr none ∧ Hid (LkP t k j y)) (fun _ i _ => t.length - (intOf i).toNat)
  case atStart => exact ⟨0, _, Nat.zero_le _, rfl, rfl, hK3, hR3, hY, hg3, fun u hu => by cases hu⟩
  case round =>
    obtain ⟨j, y, hj, rfl, rfl, hK, hR, hY, hg, HL⟩ := hrel
    by_cases hlt : j < t.length
    · have hji : (j : Int) < (t.length : Int) := by omega
      obtain ⟨b, off, rfl, hb, hcb⟩ := H3.out j hlt
      have hcs := fun i u hu => cell_g (hcb i u hu) hg
      have HT := hide (lookT_take t k j hlt)
      rw [getD_lt t j dW hlt] at HT
      generalize t[j] = x at *
      have u0 : wr.cell? ⟨b, off + j * 7, none⟩ = some (.int .i64 x.k.k) := hcs 0 _ rfl
      have u1 := hcs 1 _ rfl
      have u2 := hcs 2 _ rfl
      have u3 := hcs 3 _ rfl
      have u4 := hcs 4 _ rfl
      have u5 := hcs 5 _ rfl
      have u6 := hcs 6 _ rfl
      have k0 := hK.c0
      have k1 := hK.c1
      have k2 := hK.c2
      have y0 := hY.c0
      have y1 := hY.c1
      have y2 := hY.c2
      have yf := hY.fz
      have heq : ∀ W0 : World, (binOp .eql 25 (.agg #[.int .i64 x.k.k, .int .i64 x.k.n, .string x.k.s]) (.agg #[.int .i64 k.k, .int .i64 k.n, .string k.s])).run Tryd.prog W0 = .ok (.bool (eqV x.k k)) W0 := fun W0 => run_eqV _ _ _ _ _ _ W0
      clear hcs hcb
      go_upto_region 6 with fail
      go_region
      obtain ⟨B, HB⟩ : ∃ B, Hid ((lookT (t.take j) k).isSome = B) := ⟨_, rfl⟩
      rw [HB.out]
      cases he : eqV x.k k with
      | false =>
        have HT' := HT.out
        rw [he, if_neg (by simp)] at HT'
        have HT2 := hide HT'
        clear HT' he
        go_wp2_with fail
        go_roundw
        case rel => exact ⟨j + 1, y, by omega, by go_num, by rw [HT2.out, HB.out], hK.kept (grown_dr _) (by simp), hR.kept (grown_dr _) (by simp), hY.kept (grown_dr _) (by simp), grown_up hg (grown_dr _), fun u hu => HL.out u (by rw [← HT2.out]; exact hu)⟩
        case measure => simp [intOf]; omega
      | true =>
        have HT' := HT.out
        rw [he, if_pos rfl] at HT'
        have HT2 := hide HT'
        clear HT' he
        have hP := vb_set (hY.kept (grown_dr _) (by simp)) x.v
        have hbq : b < w.heap.size := hb
        have hP2 := hP.2
        have u6' : (((((World.drew wr).setCell ⟨w.heap.size + 1 + 1, 0, none⟩ (.int .i64 x.v.k)).setCell ⟨w.heap.size + 1 + 1, 1, none⟩ (.int .i64 x.v.n)).setCell ⟨w.heap.size + 1 + 1, 2, none⟩ (.string x.v.s))).cell? ⟨b, off + j * 7 + 6, none⟩ = some (.bool x.g) := (cell_same (hP2.block b (Nat.lt_of_lt_of_le hb hg.size) (by simp; omega)) _).trans u6
        have hK6 := (hK.kept (grown_dr _) (by simp)).kept hP2 (by simp; omega)
        have hR6 := (hR.kept (grown_dr _) (by simp)).kept hP2 (by simp)
        have HG6 := hide (grown_new (grown_up hg (grown_dr _)) hP2 (fun j e => by cases e; omega))
        have HY6 := hide hP.1
        clear hP hP2 hK hR hY
        obtain ⟨gn, HGN⟩ : ∃ gn, Hid (x.g = gn) := ⟨_, rfl⟩
        rw [HGN.out] at u6'
        cases gn with
        | true =>
          have HB2 : Hid (lookT (t.take (j + 1)) k = none) := by show _ = _; rw [HT2.out]; unfold beh; rw [if_pos HGN.out]
          go_wp2_with fail
          go_roundw
          case rel => exact ⟨j + 1, x.v, by omega, by go_num, by rw [HB2.out, HGN.out]; rfl, hK6, hR6, HY6.out, HG6.out, fun u hu => by rw [HB2.out] at hu; cases hu⟩
          case measure => simp [intOf]; omega
        | false =>
          have HB2 : Hid (lookT (t.take (j + 1)) k = some x.v) := by show _ = _; rw [HT2.out]; unfold beh; rw [if_neg (by rw [HGN.out]; simp)]
          go_wp2_with fail
          go_roundw
          case rel => exact ⟨j + 1, x.v, by omega, by go_num, by rw [HB2.out, HGN.out]; rfl, hK6, hR6, HY6.out, HG6.out, fun u hu => by rw [HB2.out] at hu; cases hu; rfl⟩
          case measure => simp [intOf]; omega
    · obtain rfl : j = t.length := by omega
      have HE : Hid (lookT (t.take t.length) k = o) := by show _ = _; rw [List.take_length]; exact HO.out
      have y0 := hY.c0
      have y1 := hY.c1
      have y2 := hY.c2
      have r0 := hR.c0
      have r1 := hR.c1
      have r2 := hR.c2
      have rf := hR.fz
      dsimp only at r0 r1 r2
      rw [HE.out]
      cases o with
      | none =>
        have hP := vb_set hR ⟨0, 0, ⟨#[]⟩⟩
        dsimp only at hP
        go_wp2
        refine bodyPost_ret (results_vb rfl _ (w.heap.size + 1) _ ⟨0, 0, ⟨#[]⟩⟩ _ rfl rfl hP.1) rfl ?_
        exact ⟨rfl, grown_new hg hP.2 (fun j e => by cases e; omega)⟩
      | some u =>
        obtain rfl : u = y := HL.out u HE.out
        have hP := vb_set hR u
        go_wp2
        refine bodyPost_ret (results_vb rfl _ (w.heap.size + 1) _ u _ rfl rfl hP.1) rfl ?_
        exact ⟨rfl, grown_new hg hP.2 (fun j e => by cases e; omega)⟩

end Go.Proofs.YthopmlgfklhagabDoor

namespace Go.Proofs.YthopmlgfklhagabDoor
open Go.RowKit
set_option linter.unusedVariables false

theorem look_all {t : List Wr} {k : V} {ys : List Nat} (h : AllI t.length ys) (hn : ∀ i ∈ ys, eqV (t.getD i dW).k k = false) : lookT t k = none := by
  rw [lookT_back t k t.length 0 (by omega) (fun j _ hj => hn j (h j hj)), List.take_zero]
  rfl
theorem look_one {t : List Wr} {k : V} {pre : List Nat} (h : SomeI t.length pre) {o : Option V} (hq : ∀ q i, pre = q ++ [i] → (∀ j ∈ q, eqV (t.getD j dW).k k = false) ∧ eqV (t.getD i dW).k k = true ∧ o = beh (t.getD i dW)) : lookT t k = o := by
  obtain ⟨q, i, e, hi, hj⟩ := h
  obtain ⟨h1, h2, rfl⟩ := hq q i e
  rw [lookT_back t k (t.length - (i + 1)) (i + 1) (by omega) (fun j h3 h4 => h1 j (hj j h3 h4)), lookT_take t k i hi, if_pos h2]
theorem vb_own {β : Type} (B : Nat) (f : β → V) : Go.Own (fun s W => Vb W B (f s)) := fun s X Y row hs hg hrow =>
  hs.kept hg (fun e' => by obtain ⟨o, ho, hc⟩ := hrow B e'.symm; rw [show X.heap[B]? = _ from hs] at ho; cases ho; cases hc)
theorem row_own {β : Type} (B : Nat) (o : β → Obj) (hc : ∀ s, (o s).isCells = true) : Go.Own (fun s W => W.heap[B]? = some (o s)) := fun s X Y row hs hg hrow => by
  refine (hg.block B (Array.getElem?_eq_some_iff.1 hs).1 (fun e' => ?_)).trans hs
  obtain ⟨o', ho, hc'⟩ := hrow B e'.symm
  rw [hs] at ho
  cases ho
  rw [hc] at hc'
  cases hc'
theorem boxed_put {W : World} {b : Nat} {t : TypeId} {v : Value} (h : Boxed W b t v) {l : Nat} {o : Obj} (o' : Obj) (hl : W.heap[l]? = some o) (ho : o.isCells = false) : Boxed (W.putObj l o') b t v :=
  h.kept (grownBy_putObj' W l o') (fun e => by
    have e : b = l := Option.some.inj e
    subst e
    rw [show W.heap[b]? = _ from h] at hl
    cases hl
    cases ho)
theorem vb_put {W : World} {b : Nat} {v : V} (h : Vb W b v) {l : Nat} {o : Obj} (o' : Obj) (hl : W.heap[l]? = some o) (ho : o.isCells = false) : Vb (W.putObj l o') b v :=
  h.kept (grownBy_putObj' W l o') (fun e => by
    have e : b = l := Option.some.inj e
    subst e
    rw [show W.heap[b]? = _ from h] at hl
    cases hl
    cases ho)
section
attribute [local go_sem] Oper.semAt_some
set_option maxRecDepth 100000 in
set_option maxHeartbeats 1000000 in
theorem look_any : TabLook := by
  intro sv t k w hR
  have HR := hide hR
  obtain ⟨a0, c0, rfl, _⟩ := hR
  unfold V.val
  refine (callsIn_wide (n := 5)).1 ?_
  refine callsIn_of_wp_marks Tryd.func6 rfl trivial ?_ rfl
  simp only [Tryd.ntmps6, List.size_toArray, List.length_nil, List.length_cons, Nat.reduceAdd, Nat.reduceSub, Array.replicate_succ, Array.replicate_zero, List.push_toArray, List.append_toArray, List.nil_append, List.cons_append]
  gi_wp2_with (refine ⟨trivial, ?_⟩; gi_at_call 15; refine (callsIn_wide.2 (back_any _ _ _ _)).mono ?_; rintro e w' ⟨rfl, rfl⟩)
  have hB0 : Below w.heap.size w ((((w.alloc (.cells #[.int .i64 k.k, .int .i64 k.n, .string k.s] 25)).alloc (.cells #[.int .i64 0, .int .i64 0, .string ⟨#[]⟩] 25)).alloc (.cells #[.bool false] 4)).alloc (.cells #[.slice a0 t.length c0] 28)) :=
    ((((Below.refl _ w).alloc (Nat.le_refl _) _).alloc (by simp) _).alloc (by simp; omega) _).alloc (by simp; omega) _
  have b0 := (((Vb.new w k).kept (World.grownBy_alloc _ (.cells #[.int .i64 0, .int .i64 0, .string ⟨#[]⟩] 25) none) (by simp)).kept (World.grownBy_alloc _ (.cells #[.bool false] 4) none) (by simp)).kept (World.grownBy_alloc _ (.cells #[.slice a0 t.length c0] 28) none) (by simp)
  have b1 := ((Vb.new (w.alloc (.cells #[.int .i64 k.k, .int .i64 k.n, .string k.s] 25)) ⟨0, 0, ⟨#[]⟩⟩).kept (World.grownBy_alloc _ (.cells #[.bool false] 4) none) (by simp)).kept (World.grownBy_alloc _ (.cells #[.slice a0 t.length c0] 28) none) (by simp)
  have b2 := (Boxed.new ((w.alloc (.cells #[.int .i64 k.k, .int .i64 k.n, .string k.s] 25)).alloc (.cells #[.int .i64 0, .int .i64 0, .string ⟨#[]⟩] 25)) 4 (.bool false)).alloc (.cells #[.slice a0 t.length c0] 28)
  have b3 := Boxed.new (((w.alloc (.cells #[.int .i64 k.k, .int .i64 k.n, .string k.s] 25)).alloc (.cells #[.int .i64 0, .int .i64 0, .string ⟨#[]⟩] 25)).alloc (.cells #[.bool false] 4)) 28 (.slice a0 t.length c0)
  dsimp only at b1
  simp only [World.size_alloc] at b1 b2 b3
  obtain ⟨W0, hW0⟩ : ∃ W0, ((((w.alloc (.cells #[.int .i64 k.k, .int .i64 k.n, .string k.s] 25)).alloc (.cells #[.int .i64 0, .int .i64 0, .string ⟨#[]⟩] 25)).alloc (.cells #[.bool false] 4)).alloc (.cells #[.slice a0 t.length c0] 28)) = W0 := ⟨_, rfl⟩
  have hz0 : W0.heap.size = w.heap.size + 1 + 1 + 1 + 1 := by rw [← hW0]; simp
  rw [hW0] at hB0 b0 b1 b2 b3 ⊢
  clear hW0
  obtain ⟨n0, HN0⟩ : ∃ n0, Hid (w.heap.size = n0) := ⟨_, rfl⟩
  rw [HN0.out] at hB0 b0 b1 b2 b3 hz0 ⊢
  refine wpIn_rangeFunc_ownH (encs := fun x : Nat => #[.int .i64 (x : Int), (t.getD x dW).val]) (Kp := Below (n0 + 1 + 1 + 1 + 1)) (S := AllI t.length) (Sp := SomeI t.length) (N := t.length) (w0 := W0) rfl (by omega) (gf := 25) (lb := #[.pointer (some ⟨n0 + 1 + 1 + 1, 0, none⟩)]) rfl trivial (enters_of Tryd.func25 (by kernel_rfl) rfl)
    (fun l J Jx W hW hJ hJx hY h0 => back1_in _ (by omega) l (n0 + 1 + 1 + 1) (n0 + 1 + 1 + 1 + 1) W.heap.size a0 c0 t w HR.out (by rw [HN0.out]; omega) (by omega) J Jx hJ hY W ((show Below w.heap.size w W0 by rw [HN0.out]; exact hB0).trans (hW.mono (by rw [HN0.out, hz0]; omega))) ((hW.cell (p := ⟨n0 + 1 + 1 + 1, 0, none⟩) (by rw [hz0]; show n0 + 1 + 1 + 1 < _; omega)).trans b3.cell) h0) belowK_t (belowK_b (by omega)) (Below.refl _ _) (fun _ => rfl)
    (fun pre W => (Vb W n0 k ∧ Vb W (n0 + 1) ⟨0, 0, ⟨#[]⟩⟩ ∧ Boxed W (n0 + 1 + 1) 4 (.bool false)) ∧ (∀ i ∈ pre, eqV (t.getD i dW).k k = false) ∧ Below n0 w W ∧ n0 + 1 + 1 + 1 + 1 ≤ W.heap.size)
    (fun c pre W => (∃ o : Option V, (Vb W (n0 + 1) (obV o) ∧ Boxed W (n0 + 1 + 1) 4 (.bool o.isSome)) ∧ c = .ret ∧ ∀ q i, pre = q ++ [i] → (∀ j ∈ q, eqV (t.getD j dW).k k = false) ∧ eqV (t.getD i dW).k k = true ∧ o = beh (t.getD i dW)) ∧ Below n0 w W)
    ?hI ?hIx ⟨⟨b0, b1, b2⟩, (fun i hi => nomatch hi), hB0, by omega⟩
    (fun x a' W => ∃ g, (n0 + 1 + 1 + 1 + 1 ≤ g ∧ W.heap[g]? = some (.cells #[.int .i64 (t.getD x dW).k.k, .int .i64 (t.getD x dW).k.n, .string (t.getD x dW).k.s, .int .i64 (t.getD x dW).v.k, .int .i64 (t.getD x dW).v.n, .string (t.getD x dW).v.s, .bool (t.getD x dW).g] 40 (0, 0))) ∧
      a' = { tmps := #[.slice a0 t.length c0, .agg #[.int .i64 k.k, .int .i64 k.n, .string k.s], undef, .pointer (some ⟨n0, 0, none⟩), .pointer (some ⟨n0 + 1, 0, none⟩), .pointer (some ⟨n0 + 1 + 1, 0, none⟩), undef, .pointer (some ⟨g, 0, none⟩), .slice a0 t.length c0, .func (.func 25) #[] #[.pointer (some ⟨n0 + 1 + 1 + 1, 0, none⟩)], .int .i64 (x : Int), (t.getD x dW).val, undef, undef, undef, undef, undef, undef, undef, undef, undef], defers := [] }) ?hAx ?assign ?body ?done ?stop
  case hI =>
    refine OwnFrom.and (OwnFrom.and (Go.Own.from (vb_own n0 (fun _ => k)) _) (OwnFrom.and (Go.Own.from (vb_own (n0 + 1) (fun _ => ⟨0, 0, ⟨#[]⟩⟩)) _) (Go.Own.from (boxed_own (n0 + 1 + 1) 4 (fun _ => .bool false)) _))) (OwnFrom.and (fun _ _ _ _ h _ _ => h) (OwnFrom.and (ownFrom_below (by rw [HN0.out]; exact Nat.le_refl _) (by omega)) (fun _ _ _ _ h hg _ => Nat.le_trans h hg.size)))
  case hIx =>
    intro c
    refine OwnFrom.and ?_ (ownFrom_below (by rw [HN0.out]; exact Nat.le_refl _) (by omega))
    rintro pre A B row ⟨o, ⟨h0, h1⟩, hc⟩ hg hr
    exact ⟨o, ⟨(Go.Own.from (vb_own (β := Unit) (n0 + 1) (fun _ => obV o)) _) () A B row h0 hg hr, (Go.Own.from (boxed_own (β := Unit) (n0 + 1 + 1) 4 (fun _ => .bool o.isSome)) _) () A B row h1 hg hr⟩, hc⟩
  case hAx =>
    rintro x a' _ A B row ⟨g, ⟨hg1, hg2⟩, ha⟩ hg hr
    exact ⟨g, ⟨hg1, (Go.Own.from (row_own (β := Unit) g (fun _ => _) (fun _ => rfl)) _) () A B row hg2 hg hr⟩, ha⟩
  case assign =>
    rintro l pre x W K ⟨⟨k0, k1, k2⟩, hq, hB, hsz⟩ hK
    obtain ⟨y, hy⟩ : ∃ y, t.getD x dW = y := ⟨_, rfl⟩
    dsimp only at hK ⊢
    rw [hy] at hK ⊢
    have HK := hide hK
    have Hq := hide hq
    clear hK hy hq
    unfold Wr.val at HK ⊢
    have hga := World.grownBy_alloc W (.cells #[.int .i64 y.k.k, .int .i64 y.k.n, .string y.k.s, .int .i64 y.v.k, .int .i64 y.v.n, .string y.v.s, .bool y.g] 40) none
    gi_wp2
    exact HK.out _ _ (KeepsFrom.of_grownBy hga (fun j e => by cases e)) ((Below.refl _ W).grown hga hsz (by simp)) ⟨⟨k0.kept hga (by simp), k1.kept hga (by simp), k2.kept hga (by simp)⟩, Hq.out, hB.trans ((Below.refl _ W).grown hga (by omega) (by simp)), Nat.le_trans hsz hga.size⟩ ⟨W.heap.size, ⟨hsz, heap_alloc_new _ _⟩, rfl⟩
  case body =>
    rintro l pre x a' W hl hr ⟨⟨k0, k1, k2⟩, hq, hB, hsz⟩ ⟨g, ⟨hg1, hg2⟩, rfl⟩ hlt
    have Hq := hide hq
    obtain ⟨y, hy⟩ : ∃ y, t.getD x dW = y := ⟨_, rfl⟩
    rw [hy] at hg2 ⊢
    have Hy := hide hy
    clear hq hy hlt hr
    have y0 : W.cell? ⟨g, 0, none⟩ = some (.int .i64 y.k.k) := by rw [cell_of_row W g 0 _ 40 (0, 0) hg2]; rfl
    have y1 : W.cell? ⟨g, 1, none⟩ = some (.int .i64 y.k.n) := by rw [cell_of_row W g 1 _ 40 (0, 0) hg2]; rfl
    have y2 : W.cell? ⟨g, 2, none⟩ = some (.string y.k.s) := by rw [cell_of_row W g 2 _ 40 (0, 0) hg2]; rfl
    have y3 : W.cell? ⟨g, 3, none⟩ = some (.int .i64 y.v.k) := by rw [cell_of_row W g 3 _ 40 (0, 0) hg2]; rfl
    have y4 : W.cell? ⟨g, 4, none⟩ = some (.int .i64 y.v.n) := by rw [cell_of_row W g 4 _ 40 (0, 0) hg2]; rfl
    have y5 : W.cell? ⟨g, 5, none⟩ = some (.string y.v.s) := by rw [cell_of_row W g 5 _ 40 (0, 0) hg2]; rfl
    have y6 : W.cell? ⟨g, 6, none⟩ = some (.bool y.g) := by rw [cell_of_row W g 6 _ 40 (0, 0) hg2]; rfl
    have q0 := k0.c0
    have q1 := k0.c1
    have q2 := k0.c2
    have heq : ∀ W0 : World, (binOp .eql 25 (.agg #[.int .i64 y.k.k, .int .i64 y.k.n, .string y.k.s]) (.agg #[.int .i64 k.k, .int .i64 k.n, .string k.s])).run Tryd.prog W0 = .ok (.bool (eqV y.k k)) W0 := fun W0 => run_eqV _ _ _ _ _ _ W0
    clear hg2
    unfold Wr.val
    cases hE : eqV y.k k with
    | false =>
      rw [hE] at heq
      have HE := hide hE
      clear hE
      gi_wp2
      refine ⟨KeepsFrom.refl _ _, Below.refl _ _, ⟨k0, k1, k2⟩, fun i hi => ?_, hB, hsz⟩
      rcases List.mem_append.1 hi with h | h
      · exact Hq.out i h
      · rw [List.mem_singleton.1 h, Hy.out]
        exact HE.out
    | true =>
      rw [hE] at heq
      have HE := hide hE
      clear hE
      have hm := fun W0 => m_behind y W0
      obtain ⟨o, HO⟩ : ∃ o, Hid (beh y = o) := ⟨_, rfl⟩
      rw [HO.out] at hm
      obtain ⟨z, HZ⟩ : ∃ z, Hid (obV o = z) := ⟨_, rfl⟩
      obtain ⟨r, HR2⟩ : ∃ r, Hid (o.isSome = r) := ⟨_, rfl⟩
      rw [HZ.out, HR2.out] at hm
      unfold Wr.val V.val at hm
      have HM := hide hm
      clear hm
      gi_wp2_with (refine ⟨trivial, ?_⟩; gi_at_call 16; refine (CallsIn.inRound l (callsIn_wide.2 (HM.out _))).mono ?_; rintro e w5 ⟨rfl, hg5⟩; have l1 := k1.kept hg5 (by simp); have l2 := k2.kept hg5 (by simp); have v0 := l1.c0; have v1 := l1.c1; have v2 := l1.c2; have vf := l1.fz; have hP := vb_set l1 z; have hb6 := l2.kept hP.2 (by simp); have c6 := hb6.cell; have f6 := hb6.frozen)
      have hb7 := hb6.set (.bool r)
      have hP7 := hP.1.kept (grownBy_setCell' _ (n0 + 1 + 1) (.bool r)) (by simp)
      refine ⟨(KeepsFrom.of_grownBy hg5 (fun j e => by cases e)).trans (((((KeepsOthers.setCell _ _ _).trans (KeepsOthers.setCell _ _ _)).trans (KeepsOthers.setCell _ _ _)).trans (KeepsOthers.setCell _ _ _)).from _), ⟨o, ⟨by rw [HZ.out]; exact hP7, by rw [HR2.out]; exact hb7⟩, rfl, fun q i e => ?_⟩, ((((hB.grown hg5 (by omega) (by simp)).setCell (p := ⟨n0 + 1, 0, none⟩) (Nat.le_succ _) _).setCell (p := ⟨n0 + 1, 1, none⟩) (Nat.le_succ _) _).setCell (p := ⟨n0 + 1, 2, none⟩) (Nat.le_succ _) _).setCell (p := ⟨n0 + 1 + 1, 0, none⟩) (by show n0 ≤ n0 + 1 + 1; omega) _⟩
      obtain ⟨rfl, h2⟩ := List.append_inj' e rfl
      obtain rfl : x = i := List.cons.inj h2 |>.1
      rw [Hy.out]
      exact ⟨Hq.out, HE.out, HO.out.symm⟩
  case done =>
    rintro D ys W hD hS ⟨⟨k0, k1, k2⟩, hq, hB, hsz⟩ hK
    have hall := hide (look_all hS hq)
    have v0 := k1.c0
    have v1 := k1.c1
    have v2 := k1.c2
    have vf := k1.fz
    have hP := vb_set k1 ⟨0, 0, ⟨#[]⟩⟩
    have hb6 := k2.kept hP.2 (by simp)
    have c6 := hb6.cell
    have f6 := hb6.frozen
    have hb7 := hb6.set (.bool false)
    have hP7 := hP.1.kept (grownBy_setCell' _ (n0 + 1 + 1) (.bool false)) (by simp)
    have hKO := (((KeepsOthers.setCell W ⟨n0 + 1, 0, none⟩ (.int .i64 0)).trans (KeepsOthers.setCell _ ⟨n0 + 1, 1, none⟩ (.int .i64 0))).trans (KeepsOthers.setCell _ ⟨n0 + 1, 2, none⟩ (.string ⟨#[]⟩))).trans (KeepsOthers.setCell _ ⟨n0 + 1 + 1, 0, none⟩ (.bool false))
    have hb3 := (((hB.setCell (p := ⟨n0 + 1, 0, none⟩) (Nat.le_succ _) (.int .i64 0)).setCell (p := ⟨n0 + 1, 1, none⟩) (Nat.le_succ _) (.int .i64 0)).setCell (p := ⟨n0 + 1, 2, none⟩) (Nat.le_succ _) (.string ⟨#[]⟩)).setCell (p := ⟨n0 + 1 + 1, 0, none⟩) (by show n0 ≤ n0 + 1 + 1; omega) (.bool false)
    have hK' := hKO.same D _ hK rfl
    gi_wp2
    refine ⟨by simp, .inl ⟨_, _, rfl, run_takeDeferred hK', ?_⟩⟩
    refine ⟨_, results_cc rfl _ _ _ _ _ _ rfl rfl (load_vb (vb_put hP7 _ hK' rfl)) (load_bool (boxed_put hb7 _ hK' rfl).cell), ?_⟩
    refine ⟨by rw [hall.out]; rfl, ?_⟩
    exact Below.toGrown (by rw [HN0.out]; exact hb3.trans (belowK_b (w := w) (by rw [HN0.out]; exact Nat.le_refl _) _ D _ _ (by rw [HN0.out]; omega) hK' rfl rfl))
  case stop =>
    rintro D c pre W hD hSp ⟨⟨o, ⟨k1, k2⟩, rfl, hbad⟩, hB⟩ hK
    have hall := hide (look_one hSp hbad)
    gi_wp2
    refine ⟨by simp, .inl ⟨_, _, rfl, run_takeDeferred hK, ?_⟩⟩
    refine ⟨_, results_cc rfl _ _ _ _ _ _ rfl rfl (load_vb (vb_put k1 _ hK rfl)) (load_bool (boxed_put k2 _ hK rfl).cell), ?_⟩
    refine ⟨by rw [hall.out]; rfl, ?_⟩
    exact Below.toGrown (by rw [HN0.out]; exact hB.trans (belowK_b (w := w) (by rw [HN0.out]; exact Nat.le_refl _) _ D _ _ (by rw [HN0.out]; omega) hK rfl rfl))
end

end Go.Proofs.YthopmlgfklhagabDoor
