/- Contracts, over the turned program: effects that read the same are the same. Conditions: those that each theorem states. A run with a table of entries, out of what its Look tells. Conditions: those that each theorem states. Contracts, over the turned program: a table's entries from the last one to the first, a range over a function. Conditions: those that each theorem states. Contract, over the turned program: what entries have of a key, as the document reads them. Conditions: those that each theorem states. Contract, over the turned program: what a table's Look tells. No conditions. Contract, over the turned program: what the laws of layer 16 ask first holds, and turns nothing that was there. Conditions: those that each theorem states. Contract, over the turned program: may a value be a register's, as the document says. Conditions: none. Contract, over the turned program: whether a frame may be, as the document says. Conditions: those that the theorem states. -/
import Derived.Test.YtpoahegccjgnjaaGreatDoorHJr
import Derived.Test.YtpoahegccjgnjaaGreatDoorKRefRead
import Derived.Test.YtpoahegccjgnjaaGreatDoorHJa
import Derived.Deep.QuietTactic
import Derived.Test.YtpoahegccjgnjaaGreatDoorHRd
import Derived.Test.YtpoahegccjgnjaaGreatDoorHJm
import Derived.RangeFuncNested
import Derived.RangeFuncBound
import Derived.RangeFuncCalls
import Derived.RangeFuncLeaves
import Derived.RangeFuncBox
import Derived.Shelf.Abstract
import Derived.Shelf.RegionOpen
import Derived.WalkKit
import Derived.OwnWalkIn
import Derived.TacticsInMore
import Derived.LoopNIn
import Derived.LoopIn
import Derived.Maps.AppendAt
import Derived.Test.YtpoahegccjgnjaaGreatDoorHDk
import Derived.Deep.RegionHeldLaw
import Derived.Test.YtpoahegccjgnjaaGreatDoorKRef
import Derived.Test.YtpoahegccjgnjaaGreatDoorHRb
import Derived.Test.YtpoahegccjgnjaaGreatDoorQH
namespace Go.Proofs.YtpoahegccjgnjaaGreatDoor
open Go.RowKit
set_option linter.unusedVariables false

theorem same_self (v v' : Value) (l : List V) (w : World) (h : Rw V.cells 3 w v l) (h' : Rw V.cells 3 w v' l) :
    Calls Tryz.prog 15 #[v, v'] w fun e w' => e = .returned (.bool true) ∧ w.grownBy w' none := by
  refine (same_any v v' l l w (rw_tup h) (rw_tup h')).mono ?_
  rintro e w' ⟨⟨b, rfl, hb⟩, hg⟩
  rw [hb.2 rfl]
  exact ⟨rfl, hg⟩
set_option maxRecDepth 100000 in
set_option maxHeartbeats 1000000 in
theorem sameF_self (v v' : Value) (pc : Int) (l : List V) (w : World) (h : Rw V.cells 3 w v l) (h' : Rw V.cells 3 w v' l) :
    Calls Tryz.prog 16 #[.agg #[.int .i64 pc, v], .agg #[.int .i64 pc, v']] w fun e w' => e = .returned (.bool true) ∧ w.grownBy w' none := by
  obtain ⟨a1, c1, rfl, x1, x2, x3⟩ := h
  have h : Rw V.cells 3 w (.slice a1 l.length c1) l := ⟨a1, c1, rfl, x1, x2, x3⟩
  obtain ⟨a2, c2, rfl, y1, y2, y3⟩ := h'
  have h' : Rw V.cells 3 w (.slice a2 l.length c2) l := ⟨a2, c2, rfl, y1, y2, y3⟩
  clear x1 x2 x3 y1 y2 y3
  have hA := World.grownBy_alloc w (.cells #[.int .i64 pc, .slice a1 l.length c1] 25) none
  have hB := World.grownBy_alloc (w.alloc (.cells #[.int .i64 pc, .slice a1 l.length c1] 25)) (.cells #[.int .i64 pc, .slice a2 l.length c2] 25) none
  have hg := grown_up hA hB
  have hs := same_self _ _ l _ (h.keptN hg) (h'.keptN hg)
  go_enter Tryz.func16, Tryz.ntmps16
  go_wp2_with (go_at_call 15; refine hs.mono ?_; rintro e w2 ⟨rfl, hg2⟩)
  go_ret
  exact ⟨rfl, grown_up hg hg2⟩
set_option maxRecDepth 100000 in
set_option maxHeartbeats 2000000 in
theorem same16_self (x y : Value) (E : Ef) (w : World) (hx : EfR w x E) (hy : EfR w y E) :
    Calls Tryz.prog 7 #[x, y] w fun e w' => e = .returned (.bool true) ∧ w.grownBy w' none := by
  obtain ⟨_, _, _, _, rfl, ⟨p1, q1, rfl, a1, a2, a3⟩, ⟨o1, r1, rfl, b1, b2, b3⟩, ⟨k1, s1, rfl, c1, c2, c3⟩, ⟨f1, g1, rfl, d1, d2, d3⟩⟩ := hx
  obtain ⟨_, _, _, _, rfl, ⟨p2, q2, rfl, a4, a5, a6⟩, ⟨o2, r2, rfl, b4, b5, b6⟩, ⟨k2, s2, rfl, c4, c5, c6⟩, ⟨f2, g2, rfl, d4, d5, d6⟩⟩ := hy
  have ho1 : Rw V.cells 3 w (.slice o1 E.ou.length r1) E.ou := ⟨o1, r1, rfl, b1, b2, b3⟩
  have ho2 : Rw V.cells 3 w (.slice o2 E.ou.length r2) E.ou := ⟨o2, r2, rfl, b4, b5, b6⟩
  have hf1 : Rw V.cells 3 w (.slice f1 E.rg.length g1) E.rg := ⟨f1, g1, rfl, d1, d2, d3⟩
  have hf2 : Rw V.cells 3 w (.slice f2 E.rg.length g2) E.rg := ⟨f2, g2, rfl, d4, d5, d6⟩
  have lp : (E.pu.length : Int) ≤ 9223372036854775807 := by unfold maxLen at a2; omega
  have lk : (E.ki.length : Int) ≤ 9223372036854775807 := by unfold maxLen at c2; omega
  have P1 := hide a3
  have P2 := hide a6
  have K1 := hide c3
  have K2 := hide c6
  clear a1 a2 a3 a4 a5 a6 b1 b2 b3 b4 b5 b6 c1 c2 c3 c4 c5 c6 d1 d2 d3 d4 d5 d6
  have hA := World.grownBy_alloc w (.cells #[.slice p1 E.pu.length q1, .slice o1 E.ou.length r1, .slice k1 E.ki.length s1, .int .i64 E.sl, .int .i64 E.en, .int .i64 E.v.k, .int .i64 E.v.n, .string E.v.s, .int .i64 E.pc, .slice f1 E.rg.length g1] 33) none
  have hs1 : (w.alloc (.cells #[.slice p1 E.pu.length q1, .slice o1 E.ou.length r1, .slice k1 E.ki.length s1, .int .i64 E.sl, .int .i64 E.en, .int .i64 E.v.k, .int .i64 E.v.n, .string E.v.s, .int .i64 E.pc, .slice f1 E.rg.length g1] 33)).heap.size = w.heap.size + 1 := World.size_alloc _ _
  have h1 := heap_alloc_new w (.cells #[.slice p1 E.pu.length q1, .slice o1 E.ou.length r1, .slice k1 E.ki.length s1, .int .i64 E.sl, .int .i64 E.en, .int .i64 E.v.k, .int .i64 E.v.n, .string E.v.s, .int .i64 E.pc, .slice f1 E.rg.length g1] 33)
  have hB := World.grownBy_alloc (w.alloc (.cells #[.slice p1 E.pu.length q1, .slice o1 E.ou.length r1, .slice k1 E.ki.length s1, .int .i64 E.sl, .int .i64 E.en, .int .i64 E.v.k, .int .i64 E.v.n, .string E.v.s, .int .i64 E.pc, .slice f1 E.rg.length g1] 33)) (.cells #[.slice p2 E.pu.length q2, .slice o2 E.ou.length r2, .slice k2 E.ki.length s2, .int .i64 E.sl, .int .i64 E.en, .int .i64 E.v.k, .int .i64 E.v.n, .string E.v.s, .int .i64 E.pc, .slice f2 E.rg.length g2] 33) none
  have h2 := heap_alloc_new (w.alloc (.cells #[.slice p1 E.pu.length q1, .slice o1 E.ou.length r1, .slice k1 E.ki.length s1, .int .i64 E.sl, .int .i64 E.en, .int .i64 E.v.k, .int .i64 E.v.n, .string E.v.s, .int .i64 E.pc, .slice f1 E.rg.length g1] 33)) (.cells #[.slice p2 E.pu.length q2, .slice o2 E.ou.length r2, .slice k2 E.ki.length s2, .int .i64 E.sl, .int .i64 E.en, .int .i64 E.v.k, .int .i64 E.v.n, .string E.v.s, .int .i64 E.pc, .slice f2 E.rg.length g2] 33)
  rw [hs1] at h2
  have h1' := (hB.block _ (Array.getElem?_eq_some_iff.1 h1).1 (by simp)).trans h1
  have hg := grown_up hA hB
  have HS := hide (fun W (h : w.grownBy W none) => same_self _ _ E.ou W (ho1.keptN h) (ho2.keptN h))
  have HF := hide (fun W (h : w.grownBy W none) => sameF_self _ _ E.pc E.rg W (hf1.keptN h) (hf2.keptN h))
  have x0 : ((w.alloc (.cells #[.slice p1 E.pu.length q1, .slice o1 E.ou.length r1, .slice k1 E.ki.length s1, .int .i64 E.sl, .int .i64 E.en, .int .i64 E.v.k, .int .i64 E.v.n, .string E.v.s, .int .i64 E.pc, .slice f1 E.rg.length g1] 33)).alloc (.cells #[.slice p2 E.pu.length q2, .slice o2 E.ou.length r2, .slice k2 E.ki.length s2, .int .i64 E.sl, .int .i64 E.en, .int .i64 E.v.k, .int .i64 E.v.n, .string E.v.s, .int .i64 E.pc, .slice f2 E.rg.length g2] 33)).cell? ⟨w.heap.size, 0, none⟩ = some (.slice p1 E.pu.length q1) := by rw [cell_of_row _ _ _ _ _ _ h1']; rfl
  have x2 : ((w.alloc (.cells #[.slice p1 E.pu.length q1, .slice o1 E.ou.length r1, .slice k1 E.ki.length s1, .int .i64 E.sl, .int .i64 E.en, .int .i64 E.v.k, .int .i64 E.v.n, .string E.v.s, .int .i64 E.pc, .slice f1 E.rg.length g1] 33)).alloc (.cells #[.slice p2 E.pu.length q2, .slice o2 E.ou.length r2, .slice k2 E.ki.length s2, .int .i64 E.sl, .int .i64 E.en, .int .i64 E.v.k, .int .i64 E.v.n, .string E.v.s, .int .i64 E.pc, .slice f2 E.rg.length g2] 33)).cell? ⟨w.heap.size, 2, none⟩ = some (.slice k1 E.ki.length s1) := by rw [cell_of_row _ _ _ _ _ _ h1']; rfl
  have y0 : ((w.alloc (.cells #[.slice p1 E.pu.length q1, .slice o1 E.ou.length r1, .slice k1 E.ki.length s1, .int .i64 E.sl, .int .i64 E.en, .int .i64 E.v.k, .int .i64 E.v.n, .string E.v.s, .int .i64 E.pc, .slice f1 E.rg.length g1] 33)).alloc (.cells #[.slice p2 E.pu.length q2, .slice o2 E.ou.length r2, .slice k2 E.ki.length s2, .int .i64 E.sl, .int .i64 E.en, .int .i64 E.v.k, .int .i64 E.v.n, .string E.v.s, .int .i64 E.pc, .slice f2 E.rg.length g2] 33)).cell? ⟨w.heap.size + 1, 0, none⟩ = some (.slice p2 E.pu.length q2) := by rw [cell_of_row _ _ _ _ _ _ h2]; rfl
  have y2 : ((w.alloc (.cells #[.slice p1 E.pu.length q1, .slice o1 E.ou.length r1, .slice k1 E.ki.length s1, .int .i64 E.sl, .int .i64 E.en, .int .i64 E.v.k, .int .i64 E.v.n, .string E.v.s, .int .i64 E.pc, .slice f1 E.rg.length g1] 33)).alloc (.cells #[.slice p2 E.pu.length q2, .slice o2 E.ou.length r2, .slice k2 E.ki.length s2, .int .i64 E.sl, .int .i64 E.en, .int .i64 E.v.k, .int .i64 E.v.n, .string E.v.s, .int .i64 E.pc, .slice f2 E.rg.length g2] 33)).cell? ⟨w.heap.size + 1, 2, none⟩ = some (.slice k2 E.ki.length s2) := by rw [cell_of_row _ _ _ _ _ _ h2]; rfl
  clear hA hB hs1 ho1 ho2 hf1 hf2
  go_enter Tryz.func7, Tryz.ntmps7
  go_upto_region 1 with fail
  have Hg := hide hg
  have gS : ∀ (k : Nat) (u : Value), (#[.slice p1 E.pu.length q1, .slice o1 E.ou.length r1, .slice k1 E.ki.length s1, .int .i64 E.sl, .int .i64 E.en, .int .i64 E.v.k, .int .i64 E.v.n, .string E.v.s, .int .i64 E.pc, .slice f1 E.rg.length g1] : Array Value)[k]? = some u → ((w.alloc (.cells #[.slice p1 E.pu.length q1, .slice o1 E.ou.length r1, .slice k1 E.ki.length s1, .int .i64 E.sl, .int .i64 E.en, .int .i64 E.v.k, .int .i64 E.v.n, .string E.v.s, .int .i64 E.pc, .slice f1 E.rg.length g1] 33)).alloc (.cells #[.slice p2 E.pu.length q2, .slice o2 E.ou.length r2, .slice k2 E.ki.length s2, .int .i64 E.sl, .int .i64 E.en, .int .i64 E.v.k, .int .i64 E.v.n, .string E.v.s, .int .i64 E.pc, .slice f2 E.rg.length g2] 33)).cell? ⟨w.heap.size, k, none⟩ = some u := fun k u hu => by rw [cell_of_row _ _ _ _ _ _ h1']; exact hu
  have gT : ∀ (k : Nat) (u : Value), (#[.slice p2 E.pu.length q2, .slice o2 E.ou.length r2, .slice k2 E.ki.length s2, .int .i64 E.sl, .int .i64 E.en, .int .i64 E.v.k, .int .i64 E.v.n, .string E.v.s, .int .i64 E.pc, .slice f2 E.rg.length g2] : Array Value)[k]? = some u → ((w.alloc (.cells #[.slice p1 E.pu.length q1, .slice o1 E.ou.length r1, .slice k1 E.ki.length s1, .int .i64 E.sl, .int .i64 E.en, .int .i64 E.v.k, .int .i64 E.v.n, .string E.v.s, .int .i64 E.pc, .slice f1 E.rg.length g1] 33)).alloc (.cells #[.slice p2 E.pu.length q2, .slice o2 E.ou.length r2, .slice k2 E.ki.length s2, .int .i64 E.sl, .int .i64 E.en, .int .i64 E.v.k, .int .i64 E.v.n, .string E.v.s, .int .i64 E.pc, .slice f2 E.rg.length g2] 33)).cell? ⟨w.heap.size + 1, k, none⟩ = some u := fun k u hu => by rw [cell_of_row _ _ _ _ _ _ h2]; exact hu
  clear h1 h2 h1'
  generalize (w.alloc (.cells #[.slice p1 E.pu.length q1, .slice o1 E.ou.length r1, .slice k1 E.ki.length s1, .int .i64 E.sl, .int .i64 E.en, .int .i64 E.v.k, .int .i64 E.v.n, .string E.v.s, .int .i64 E.pc, .slice f1 E.rg.length g1] 33)).alloc (.cells #[.slice p2 E.pu.length q2, .slice o2 E.ou.length r2, .slice k2 E.ki.length s2, .int .i64 E.sl, .int .i64 E.en, .int .i64 E.v.k, .int .i64 E.v.n, .string E.v.s, .int .i64 E.pc, .slice f2 E.rg.length g2] 33) = W2 at *
  have za0 := gS 0 (.slice p1 E.pu.length q1) rfl
  have zb0 := gT 0 (.slice p2 E.pu.length q2) rfl
  have za1 := gS 1 (.slice o1 E.ou.length r1) rfl
  have zb1 := gT 1 (.slice o2 E.ou.length r2) rfl
  have za2 := gS 2 (.slice k1 E.ki.length s1) rfl
  have zb2 := gT 2 (.slice k2 E.ki.length s2) rfl
  have za3 := gS 3 (.int .i64 E.sl) rfl
  have zb3 := gT 3 (.int .i64 E.sl) rfl
  have za4 := gS 4 (.int .i64 E.en) rfl
  have zb4 := gT 4 (.int .i64 E.en) rfl
  have za5 := gS 5 (.int .i64 E.v.k) rfl
  have zb5 := gT 5 (.int .i64 E.v.k) rfl
  have za6 := gS 6 (.int .i64 E.v.n) rfl
  have zb6 := gT 6 (.int .i64 E.v.n) rfl
  have za7 := gS 7 (.string E.v.s) rfl
  have zb7 := gT 7 (.string E.v.s) rfl
  have za8 := gS 8 (.int .i64 E.pc) rfl
  have zb8 := gT 8 (.int .i64 E.pc) rfl
  have za9 := gS 9 (.slice f1 E.rg.length g1) rfl
  have zb9 := gT 9 (.slice f2 E.rg.length g2) rfl
  have S0 := fun (w' : World) (h : W2.grownBy w' none) => cell_g za0 h
  have T0 := fun (w' : World) (h : W2.grownBy w' none) => cell_g zb0 h
  have S1 := fun (w' : World) (h : W2.grownBy w' none) => cell_g za1 h
  have T1 := fun (w' : World) (h : W2.grownBy w' none) => cell_g zb1 h
  have S2 := fun (w' : World) (h : W2.grownBy w' none) => cell_g za2 h
  have T2 := fun (w' : World) (h : W2.grownBy w' none) => cell_g zb2 h
  have S3 := fun (w' : World) (h : W2.grownBy w' none) => cell_g za3 h
  have T3 := fun (w' : World) (h : W2.grownBy w' none) => cell_g zb3 h
  have S4 := fun (w' : World) (h : W2.grownBy w' none) => cell_g za4 h
  have T4 := fun (w' : World) (h : W2.grownBy w' none) => cell_g zb4 h
  have S5 := fun (w' : World) (h : W2.grownBy w' none) => cell_g za5 h
  have T5 := fun (w' : World) (h : W2.grownBy w' none) => cell_g zb5 h
  have S6 := fun (w' : World) (h : W2.grownBy w' none) => cell_g za6 h
  have T6 := fun (w' : World) (h : W2.grownBy w' none) => cell_g zb6 h
  have S7 := fun (w' : World) (h : W2.grownBy w' none) => cell_g za7 h
  have T7 := fun (w' : World) (h : W2.grownBy w' none) => cell_g zb7 h
  have S8 := fun (w' : World) (h : W2.grownBy w' none) => cell_g za8 h
  have T8 := fun (w' : World) (h : W2.grownBy w' none) => cell_g zb8 h
  have S9 := fun (w' : World) (h : W2.grownBy w' none) => cell_g za9 h
  have T9 := fun (w' : World) (h : W2.grownBy w' none) => cell_g zb9 h
  go_upto_region 3 with (first
    | (go_at_call 15; refine (HS.out _ Hg.out).mono ?_; rintro e w3 ⟨rfl, hg3⟩; have za3 := S3 _ hg3; have zb3 := T3 _ hg3; have za4 := S4 _ hg3; have zb4 := T4 _ hg3; have za5 := S5 _ hg3; have zb5 := T5 _ hg3; have za6 := S6 _ hg3; have zb6 := T6 _ hg3; have za7 := S7 _ hg3; have zb7 := T7 _ hg3; have za8 := S8 _ hg3; have zb8 := T8 _ hg3; have za9 := S9 _ hg3; have zb9 := T9 _ hg3)
    | (go_at_call 16; refine (HF.out _ (grown_up Hg.out hg3)).mono ?_; rintro e w4 ⟨rfl, hg4⟩))
  have hg2 := grown_up hg3 hg4
  go_wp2_with fail
  go_loopw [5] (fun t wr => ∃ j : Nat, j ≤ E.pu.length ∧ t = .int .i64 (j : Int) ∧ W2.grownBy wr none) (fun t _ => E.pu.length - (intOf t).toNat)
  case atStart => exact ⟨0, Nat.zero_le _, rfl, hg2⟩
  case round =>
    obtain ⟨j, hj, rfl, hgr⟩ := hrel
    have hgw := grown_up Hg.out hgr
    have za0 := S0 _ hgr
    have zb0 := T0 _ hgr
    have za2 := S2 _ hgr
    have zb2 := T2 _ hgr
    by_cases hlt : j < E.pu.length
    · have hji : (j : Int) < (E.pu.length : Int) := by omega
      obtain ⟨b, off, rfl, hb, hcb⟩ := P1.out j hlt
      obtain ⟨b', off', rfl, hb', hcb'⟩ := P2.out j hlt
      have hcs := fun k u hu => cell_g (hcb k u hu) hgw
      have hcs' := fun k u hu => cell_g (hcb' k u hu) hgw
      generalize E.pu[j] = x at *
      have u0 : wr.cell? ⟨b, off + j * 7, none⟩ = some (.int .i64 x.k.k) := hcs 0 _ rfl
      have v0 : wr.cell? ⟨b', off' + j * 7, none⟩ = some (.int .i64 x.k.k) := hcs' 0 _ rfl
      have u1 := hcs 1 _ rfl
      have v1 := hcs' 1 _ rfl
      have u2 := hcs 2 _ rfl
      have v2 := hcs' 2 _ rfl
      have u3 := hcs 3 _ rfl
      have v3 := hcs' 3 _ rfl
      have u4 := hcs 4 _ rfl
      have v4 := hcs' 4 _ rfl
      have u5 := hcs 5 _ rfl
      have v5 := hcs' 5 _ rfl
      have u6 := hcs 6 _ rfl
      have v6 := hcs' 6 _ rfl
      clear hcs hcs' hcb hcb'
      go_upto_region 6 with fail
      go_region
      go_wp2_with fail
      go_roundw
      case rel => exact ⟨j + 1, by omega, by go_num, grown_up hgr (by first | exact grown_dr _ | exact grown_drewN _ _ _)⟩
      case measure => simp [intOf]; omega
    · obtain rfl : j = E.pu.length := by omega
      have hgr1 := hgr
      clear hj hlt
      go_wp2_with fail
      go_loopw [6] (fun t wr => ∃ j : Nat, j ≤ E.ki.length ∧ t = .int .i64 (j : Int) ∧ W2.grownBy wr none) (fun t _ => E.ki.length - (intOf t).toNat)
      case atStart => exact ⟨0, Nat.zero_le _, rfl, hgr1⟩
      case round =>
        obtain ⟨j, hj, rfl, hgr⟩ := hrel
        have hgw := grown_up Hg.out hgr
        have za0 := S0 _ hgr
        have zb0 := T0 _ hgr
        have za2 := S2 _ hgr
        have zb2 := T2 _ hgr
        by_cases hlt : j < E.ki.length
        · have hji : (j : Int) < (E.ki.length : Int) := by omega
          obtain ⟨b, off, rfl, hb, hcb⟩ := K1.out j hlt
          obtain ⟨b', off', rfl, hb', hcb'⟩ := K2.out j hlt
          have hcs := fun k u hu => cell_g (hcb k u hu) hgw
          have hcs' := fun k u hu => cell_g (hcb' k u hu) hgw
          generalize E.ki[j] = x at *
          have u0 : wr.cell? ⟨b, off + j * 7, none⟩ = some (.int .i64 x.p) := hcs 0 _ rfl
          have v0 : wr.cell? ⟨b', off' + j * 7, none⟩ = some (.int .i64 x.p) := hcs' 0 _ rfl
          have u1 := hcs 1 _ rfl
          have v1 := hcs' 1 _ rfl
          have u2 := hcs 2 _ rfl
          have v2 := hcs' 2 _ rfl
          have u3 := hcs 3 _ rfl
          have v3 := hcs' 3 _ rfl
          have u4 := hcs 4 _ rfl
          have v4 := hcs' 4 _ rfl
          have u5 := hcs 5 _ rfl
          have v5 := hcs' 5 _ rfl
          have u6 := hcs 6 _ rfl
          have v6 := hcs' 6 _ rfl
          clear hcs hcs' hcb hcb'
          go_upto_region 11 with fail
          go_region
          go_wp2_with fail
          go_roundw
          case rel => exact ⟨j + 1, by omega, by go_num, grown_up hgr (by first | exact grown_dr _ | exact grown_drewN _ _ _)⟩
          case measure => simp [intOf]; omega
        · obtain rfl : j = E.ki.length := by omega
          go_wp2
          go_ret
          exact ⟨rfl, hgw⟩

end Go.Proofs.YtpoahegccjgnjaaGreatDoor

namespace Go.Proofs.YtpoahegccjgnjaaGreatDoor
open Go.RowKit
set_option linter.unusedVariables false

/-- What a table's Look tells. -/
def TabLook : Prop := ∀ (sv : Value) (t : List Wr) (k : V) (w : World), Rw Wr.cells 7 w sv t → Calls Tryz.prog 131 #[sv, k.val] w fun e w' => e = .returned (.tuple #[(obV (lookT t k)).val, .bool (lookT t k).isSome]) ∧ w.grownBy w' none
theorem Rw.kpw {α : Type} {c : α → List Value} {n : Nat} {B : Bd} {w w' : World} {v : Value} {l : List α} (h : Rw c n w v l) (hk : Kp (Bk B) w w') (hB : w.heap.size ≤ B.1) : Rw c n w' v l := by
  obtain ⟨a, cap, rfl, h1, h2, h3⟩ := h
  refine ⟨a, cap, rfl, h1, h2, fun i hi => ?_⟩
  obtain ⟨b, off, rfl, hb, hc⟩ := h3 i hi
  exact ⟨b, off, rfl, Nat.lt_of_lt_of_le hb hk.size, fun j u hu => hk.cell (hc j u hu) (fun hh => by have := hh.1; omega)⟩
theorem ask_tab (hL : TabLook) (B : Bd) (sv : Value) (t : List Wr) (w0 : World) (hR : Rw Wr.cells 7 w0 sv t) (hB : w0.heap.size ≤ B.1) : AskP B (.iface 37 sv) (lookT t) w0 :=
  fun k W _ hK => m_ask_tab sv k _ _ W (fun W' hg => hL sv t k W' ((hR.kpw hK hB).keptN hg))
/-- A run's answer, its slices written out. -/
def RunS (e : Ending) (w' : World) (E : Ef) (X : Int) : Prop := ∃ a1 m1 c1 e1 n1 d1 r1 o1 t1 h1 p1 q1, e = .returned (.tuple #[.agg #[.slice a1 m1 c1, .slice e1 n1 d1, .slice r1 o1 t1, .int .i64 E.sl, .int .i64 E.en, .int .i64 E.v.k, .int .i64 E.v.n, .string E.v.s, .int .i64 E.pc, .slice h1 p1 q1], .int .i64 X]) ∧ EfR w' (.agg #[.slice a1 m1 c1, .slice e1 n1 d1, .slice r1 o1 t1, .int .i64 E.sl, .int .i64 E.en, .int .i64 E.v.k, .int .i64 E.v.n, .string E.v.s, .int .i64 E.pc, .slice h1 p1 q1]) E
theorem runS {e : Ending} {w' : World} {E : Ef} {X : Int} (h : RunP e w' E X) : RunS e w' E X := by
  obtain ⟨x, rfl, hE⟩ := h
  have hE' := hE
  obtain ⟨pv, ov, kv, rv, rfl, ⟨_, _, rfl, _⟩, ⟨_, _, rfl, _⟩, ⟨_, _, rfl, _⟩, ⟨_, _, rfl, _⟩⟩ := hE
  exact ⟨_, _, _, _, _, _, _, _, _, _, _, _, rfl, hE'⟩
theorem run_tab (hL : TabLook) (v rv sv : Value) (l : List In) (pc : Int) (rg : List V) (t : List Wr) (w : World) (hI : Ins w v l) (hwf : ∀ x ∈ l, x.wf) (hG : Glob w) (hr : Rw V.cells 3 w rv rg) (hrw : ∀ x ∈ rg, x.wf) (ht : Rw Wr.cells 7 w sv t) (htw : ∀ x ∈ t, x.v.wf) :
    Calls Tryz.prog 5 #[v, .agg #[.int .i64 pc, rv], .iface 37 sv] w fun e w' => RunS e w' (runE (lookT t) l pc rg) (runX l pc rg) ∧ w.grownBy w' none :=
  (m_run v rv _ l pc rg (lookT t) w hI hwf hG hr hrw (lookT_wf htw) (.inr ⟨_, _, rfl⟩) (fun W0 d hg => ask_tab hL (W0.heap.size, d) sv t W0 (ht.keptN hg) (Nat.le_refl _))).mono (fun e w' h => ⟨runS h.1, h.2⟩)
theorem run_nil (v rv : Value) (l : List In) (pc : Int) (rg : List V) (w : World) (hI : Ins w v l) (hwf : ∀ x ∈ l, x.wf) (hG : Glob w) (hr : Rw V.cells 3 w rv rg) (hrw : ∀ x ∈ rg, x.wf) :
    Calls Tryz.prog 5 #[v, .agg #[.int .i64 pc, rv], .nilIface] w fun e w' => RunS e w' (runE (fun _ => none) l pc rg) (runX l pc rg) ∧ w.grownBy w' none :=
  (m_run v rv _ l pc rg (fun _ => none) w hI hwf hG hr hrw (fun _ _ h => by cases h) (.inl rfl) (fun W0 d _ => ask_nil _ W0)).mono (fun e w' h => ⟨runS h.1, h.2⟩)

end Go.Proofs.YtpoahegccjgnjaaGreatDoor

namespace Go.Proofs.YtpoahegccjgnjaaGreatDoor
open Go.RowKit
set_option linter.unusedVariables false

set_option maxHeartbeats 400000 in
theorem back_any (a : Option Addr) (n c : Nat) (w : World) :
    Calls Tryz.prog 132 #[.slice a n c] w fun e w' => e = .returned (.func (.func 133) #[] #[.pointer (some ⟨w.heap.size, 0, none⟩)]) ∧ w' = w.alloc (.cells #[.slice a n c] 37) := by
  go_enter Tryz.func132, Tryz.ntmps132
  go_wp2
  go_ret
  exact ⟨rfl, rfl⟩

/-- All places of n, and those from the last one down to one. -/
def AllI (n : Nat) (ys : List Nat) : Prop := ∀ j, j < n → j ∈ ys
def SomeI (n : Nat) (pre : List Nat) : Prop := ∃ q i, pre = q ++ [i] ∧ i < n ∧ ∀ j, i < j → j < n → j ∈ q
theorem Below.toGrown {w w' : World} (h : Below w.heap.size w w') : w.grownBy w' none := ⟨h.os, h.tape, h.output, h.size, fun k hk _ => h.block k hk⟩

section
attribute [local go_sem] Oper.semAt_some
set_option maxRecDepth 100000 in
set_option maxHeartbeats 1000000 in
theorem back1_in (n : Nat) (hn : 1 ≤ n) (l Bn n₀ B0 : Nat) (a0 : Option Addr) (c0 : Nat) (t : List Wr) (w : World) (hR : Rw Wr.cells 7 w (.slice a0 t.length c0) t) (hw : w.heap.size ≤ n₀) (hB0 : Bn < n₀) (J Jx : List Nat → World → Prop) (hJ : AbidesFrom B0 J)
    (hY : ∀ (pre : List Nat) (x : Nat) (W : World), J pre W → pre.length < t.length → YieldAt Fence.wide (n - 1) Tryz.prog l #[.int .i64 (x : Int), (t.getD x dW).val] W fun e W' =>
      (e = .returned (.bool true) ∧ J (pre ++ [x]) W' ∧ Below n₀ W W') ∨ (e = .returned (.bool false) ∧ Jx (pre ++ [x]) W'))
    (W : World) (hW : Below w.heap.size w W) (hBn : W.cell? ⟨Bn, 0, none⟩ = some (.slice a0 t.length c0)) (h0 : J [] W) :
    CallsIn Fence.wide n Tryz.prog 133 #[.func (.yield l) #[] #[], .pointer (some ⟨Bn, 0, none⟩)] W fun e W' => (∃ v, e = .returned v) ∧
      ((∃ ys, AllI t.length ys ∧ J ys W') ∨ (∃ pre, SomeI t.length pre ∧ Jx pre W')) := by
  obtain ⟨sa, sc, hse, hcap, hsz, hel⟩ := hR
  cases hse
  have hlm : (t.length : Int) ≤ 9223372036854775807 := by have := hcap; have := hsz; unfold maxLen at *; omega
  have H3 := hide hel
  clear hel hcap hsz
  have hw1 : wrap64 ((t.length : Int) - 1) = (t.length : Int) - 1 := by unfold wrap64; omega
  refine callsIn_of_wp Tryz.func133 rfl trivial ?_ rfl
  simp only [Tryz.ntmps133, List.size_toArray, List.length_cons, List.length_nil, Nat.reduceAdd, Nat.reduceSub, Array.replicate_succ, Array.replicate_zero, List.push_toArray, List.append_toArray, List.nil_append, List.cons_append]
  gi_wp2
  gi_loopw [3] (fun ir wr => ∃ (pre : List Nat) (m : Nat) (z : Int), ir = .int .i64 z ∧ z = (m : Int) - 1 ∧ pre.length + m = t.length ∧ Hid (∀ j, m ≤ j → j < t.length → j ∈ pre) ∧ J pre wr ∧ Below w.heap.size w wr ∧ wr.cell? ⟨Bn, 0, none⟩ = some (.slice a0 t.length c0))
    (fun ir _ => (intOf ir + 1).toNat)
  case atStart =>
    exact ⟨[], t.length, _, rfl, rfl, by simp, fun j h1 h2 => by omega, h0, hW, hBn⟩
  case round =>
    obtain ⟨pre, m, z, rfl, hz, hlen, HX, hJs, hBw, hcB⟩ := hrel
    rcases m with _ | m
    · obtain rfl : z = -1 := by omega
      clear hz hlen
      gi_wp2
      go_end0
      exact ⟨⟨_, rfl⟩, .inl ⟨pre, fun j hj => HX.out j (Nat.zero_le _) hj, hJs⟩⟩
    · obtain rfl : z = (m : Int) := by omega
      have hm : m < t.length := by omega
      obtain ⟨b, off, hai, hb, hcb⟩ := H3.out m hm
      have hgr := Below.toGrown hBw
      obtain ⟨x, hx⟩ : ∃ x, t[m] = x := ⟨_, rfl⟩
      have Hx : Hid (t.getD m dW = x) := by show _ = _; rw [← hx]; exact getD_lt t m dW hm
      rw [hx] at hcb
      have i0 : wr.cell? ⟨b, off + m * 7, none⟩ = some (.int .i64 x.k.k) := cell_g (hcb 0 _ rfl) hgr
      have i1 := cell_g (hcb 1 _ rfl) hgr
      have i2 := cell_g (hcb 2 _ rfl) hgr
      have i3 := cell_g (hcb 3 _ rfl) hgr
      have i4 := cell_g (hcb 4 _ rfl) hgr
      have i5 := cell_g (hcb 5 _ rfl) hgr
      have i6 := cell_g (hcb 6 _ rfl) hgr
      have Hlt : Hid (pre.length < t.length) := by show _ < _; omega
      have hmi : (m : Int) < (t.length : Int) := by omega
      have hm0 : (0 : Int) ≤ (m : Int) := by omega
      obtain ⟨fn, tmps, assign, body, hy, hRy⟩ := hY pre m wr hJs Hlt.out
      rw [Hx.out] at hy
      unfold Wr.val at hy
      subst hai
      clear hcb
      have Hlen := hide hlen
      clear hz hlen hx
      have hwm : wrap64 ((m : Int) - 1) = (m : Int) - 1 := by unfold wrap64; omega
      have HRy := hide hRy
      clear hRy
      gi_wp2
      refine HRy.out.mono ?_
      rintro e W3 (⟨rfl, hJ3, hk3⟩ | ⟨rfl, hJx3⟩)
      · have hB3 := hBw.trans (hk3.mono hw)
        have hc3 := (hk3.cell (p := ⟨Bn, 0, none⟩) hB0).trans hcB
        have HX2 : Hid (∀ j, m ≤ j → j < t.length → j ∈ pre ++ [m]) := fun j h1 h2 => by
          rcases Nat.lt_or_ge m j with h | h
          · exact List.mem_append_left _ (HX.out j h h2)
          · obtain rfl : j = m := by omega
            simp
        gi_wp2
        go_roundw
        case rel => exact ⟨pre ++ [m], m, _, rfl, rfl, by have := Hlen.out; rw [List.length_append, List.length_singleton]; omega, HX2, hJ3, hB3, hc3⟩
        case measure => simp [intOf]
      · gi_wp2
        refine bodyPost_ret (results_none rfl _ _ _) rfl ?_
        exact ⟨⟨_, rfl⟩, .inr ⟨_, ⟨pre, m, rfl, hm, fun j h1 h2 => HX.out j h1 h2⟩, hJx3⟩⟩
end

end Go.Proofs.YtpoahegccjgnjaaGreatDoor

namespace Go.Proofs.YtpoahegccjgnjaaGreatDoor
open Go.RowKit
set_option linter.unusedVariables false

/-- What the loop has found so far. -/
def LkP (t : List Wr) (k : V) (j : Nat) (y : V) : Prop := ∀ u, lookT (t.take j) k = some u → u = y
set_option maxRecDepth 100000 in
set_option maxHeartbeats 2000000 in
theorem rlook_any (v : Value) (t : List Wr) (k : V) (w : World) (hR : Rw Wr.cells 7 w v t) :
    Calls Tryz.prog 86 #[v, k.val] w fun e w' => e = .returned (.tuple #[(obV (lookT t k)).val, .bool (lookT t k).isSome]) ∧ w.grownBy w' none := by
  obtain ⟨a, c, rfl, h1, h2, h3⟩ := hR
  have hlm : (t.length : Int) ≤ 9223372036854775807 := by unfold maxLen at h2; omega
  have H3 := hide h3
  clear h1 h2 h3
  obtain ⟨o, HO⟩ : ∃ o, Hid (lookT t k = o) := ⟨_, rfl⟩
  rw [HO.out]
  have hA := World.grownBy_alloc w (.cells #[.int .i64 k.k, .int .i64 k.n, .string k.s] 31) none
  have hK := Vb.new w k
  have hs1 : (w.alloc (.cells #[.int .i64 k.k, .int .i64 k.n, .string k.s] 31)).heap.size = w.heap.size + 1 := World.size_alloc _ _
  unfold V.val
  go_enter Tryz.func86, Tryz.ntmps86
  go_upto_region 1 with fail
  generalize w.alloc (.cells #[.int .i64 k.k, .int .i64 k.n, .string k.s] 31) = W1 at *
  have hB := World.grownBy_alloc W1 (.cells #[.int .i64 0, .int .i64 0, .string ⟨#[]⟩] 31) none
  have hR1 := Vb.new W1 ⟨0, 0, ⟨#[]⟩⟩
  have hs2 : (W1.alloc (.cells #[.int .i64 0, .int .i64 0, .string ⟨#[]⟩] 31)).heap.size = w.heap.size + 1 + 1 := by rw [World.size_alloc, hs1]
  have hC := World.grownBy_alloc (W1.alloc (.cells #[.int .i64 0, .int .i64 0, .string ⟨#[]⟩] 31)) (.cells #[.int .i64 0, .int .i64 0, .string ⟨#[]⟩] 31) none
  have hY := Vb.new (W1.alloc (.cells #[.int .i64 0, .int .i64 0, .string ⟨#[]⟩] 31)) ⟨0, 0, ⟨#[]⟩⟩
  rw [hs2] at hY
  rw [hs1] at hR1
  dsimp only at hR1 hY
  have hK3 := (hK.kept hB (by simp)).kept hC (by simp)
  have hR3 := hR1.kept hC (by simp)
  have hg3 := grown_up (grown_up hA hB) hC
  go_upto_region 2 with fail
  clear hA hB hC hK hR1 hs1 hs2
  generalize (W1.alloc (.cells #[.int .i64 0, .int .i64 0, .string ⟨#[]⟩] 31)).alloc (.cells #[.int .i64 0, .int .i64 0, .string ⟨#[]⟩] 31) = W3 at *
  go_wp2_with fail
  go_loopw [7, 8] (fun b i wr => ∃ (j : Nat) (y : V), j ≤ t.length ∧ i = .int .i64 (j : Int) ∧ b = .bool (lookT (t.take j) k).isSome ∧ Vb wr w.heap.size k ∧ Vb wr (w.heap.size + 1) ⟨0, 0, ⟨#[]⟩⟩ ∧ Vb wr (w.heap.size + 1 + 1) y ∧ w.grownBy wr none ∧ Hid (LkP t k j y)) (fun _ i _ => t.length - (intOf i).toNat)
  case atStart => exact ⟨0, _, Nat.zero_le _, rfl, rfl, hK3, hR3, hY, hg3, fun u hu => by cases hu⟩
  case round =>
    obtain ⟨j, y, hj, rfl, rfl, hK, hR, hY, hg, HL⟩ := hrel
    by_cases hlt : j < t.length
    · have hji : (j : Int) < (t.length : Int) := by omega
      obtain ⟨b, off, rfl, hb, hcb⟩ := H3.out j hlt
      have hcs := fun i u hu => cell_g (hcb i u hu) hg
      have HT := hide (lookT_take t k j hlt)
      rw [getD_lt t j dW hlt] at HT
      generalize t[j] = x at *
      have u0 : wr.cell? ⟨b, off + j * 7, none⟩ = some (.int .i64 x.k.k) := hcs 0 _ rfl
      have u1 := hcs 1 _ rfl
      have u2 := hcs 2 _ rfl
      have u3 := hcs 3 _ rfl
      have u4 := hcs 4 _ rfl
      have u5 := hcs 5 _ rfl
      have u6 := hcs 6 _ rfl
      have k0 := hK.c0
      have k1 := hK.c1
      have k2 := hK.c2
      have y0 := hY.c0
      have y1 := hY.c1
      have y2 := hY.c2
      have yf := hY.fz
      have heq : ∀ W0 : World, (binOp .eql 31 (.agg #[.int .i64 x.k.k, .int .i64 x.k.n, .string x.k.s]) (.agg #[.int .i64 k.k, .int .i64 k.n, .string k.s])).run Tryz.prog W0 = .ok (.bool (eqV x.k k)) W0 := fun W0 => run_eqV _ _ _ _ _ _ W0
      clear hcs hcb
      go_upto_region 6 with fail
      go_region
      obtain ⟨B, HB⟩ : ∃ B, Hid ((lookT (t.take j) k).isSome = B) := ⟨_, rfl⟩
      rw [HB.out]
      cases he : eqV x.k k with
      | false =>
        have HT' := HT.out
        rw [he, if_neg (by simp)] at HT'
        have HT2 := hide HT'
        clear HT' he
        go_wp2_with fail
        go_roundw
        case rel => exact ⟨j + 1, y, by omega, by go_num, by rw [HT2.out, HB.out], hK.kept (grown_dr _) (by simp), hR.kept (grown_dr _) (by simp), hY.kept (grown_dr _) (by simp), grown_up hg (grown_dr _), fun u hu => HL.out u (by rw [← HT2.out]; exact hu)⟩
        case measure => simp [intOf]; omega
      | true =>
        have HT' := HT.out
        rw [he, if_pos rfl] at HT'
        have HT2 := hide HT'
        clear HT' he
        have hP := vb_set (hY.kept (grown_dr _) (by simp)) x.v
        have hbq : b < w.heap.size := hb
        have hP2 := hP.2
        have u6' : (((((World.drew wr).setCell ⟨w.heap.size + 1 + 1, 0, none⟩ (.int .i64 x.v.k)).setCell ⟨w.heap.size + 1 + 1, 1, none⟩ (.int .i64 x.v.n)).setCell ⟨w.heap.size + 1 + 1, 2, none⟩ (.string x.v.s))).cell? ⟨b, off + j * 7 + 6, none⟩ = some (.bool x.g) := (cell_same (hP2.block b (Nat.lt_of_lt_of_le hb hg.size) (by simp; omega)) _).trans u6
        have hK6 := (hK.kept (grown_dr _) (by simp)).kept hP2 (by simp; omega)
        have hR6 := (hR.kept (grown_dr _) (by simp)).kept hP2 (by simp)
        have HG6 := hide (grown_new (grown_up hg (grown_dr _)) hP2 (fun j e => by cases e; omega))
        have HY6 := hide hP.1
        clear hP hP2 hK hR hY
        obtain ⟨gn, HGN⟩ : ∃ gn, Hid (x.g = gn) := ⟨_, rfl⟩
        rw [HGN.out] at u6'
        cases gn with
        | true =>
          have HB2 : Hid (lookT (t.take (j + 1)) k = none) := by show _ = _; rw [HT2.out]; unfold beh; rw [if_pos HGN.out]
          go_wp2_with fail
          go_roundw
          case rel => exact ⟨j + 1, x.v, by omega, by go_num, by rw [HB2.out, HGN.out]; rfl, hK6, hR6, HY6.out, HG6.out, fun u hu => by rw [HB2.out] at hu; cases hu⟩
          case measure => simp [intOf]; omega
        | false =>
          have HB2 : Hid (lookT (t.take (j + 1)) k = some x.v) := by show _ = _; rw [HT2.out]; unfold beh; rw [if_neg (by rw [HGN.out]; simp)]
          go_wp2_with fail
          go_roundw
          case rel => exact ⟨j + 1, x.v, by omega, by go_num, by rw [HB2.out, HGN.out]; rfl, hK6, hR6, HY6.out, HG6.out, fun u hu => by rw [HB2.out] at hu; cases hu; rfl⟩
          case measure => simp [intOf]; omega
    · obtain rfl : j = t.length := by omega
      have HE : Hid (lookT (t.take t.length) k = o) := by show _ = _; rw [List.take_length]; exact HO.out
      have y0 := hY.c0
      have y1 := hY.c1
      have y2 := hY.c2
      have r0 := hR.c0
      have r1 := hR.c1
      have r2 := hR.c2
      have rf := hR.fz
      dsimp only at r0 r1 r2
      rw [HE.out]
      cases o with
      | none =>
        have hP := vb_set hR ⟨0, 0, ⟨#[]⟩⟩
        dsimp only at hP
        go_wp2
        refine bodyPost_ret (results_vb rfl _ (w.heap.size + 1) _ ⟨0, 0, ⟨#[]⟩⟩ _ rfl rfl hP.1) rfl ?_
        exact ⟨rfl, grown_new hg hP.2 (fun j e => by cases e; omega)⟩
      | some u =>
        obtain rfl : u = y := HL.out u HE.out
        have hP := vb_set hR u
        go_wp2
        refine bodyPost_ret (results_vb rfl _ (w.heap.size + 1) _ u _ rfl rfl hP.1) rfl ?_
        exact ⟨rfl, grown_new hg hP.2 (fun j e => by cases e; omega)⟩

end Go.Proofs.YtpoahegccjgnjaaGreatDoor

namespace Go.Proofs.YtpoahegccjgnjaaGreatDoor
open Go.RowKit
set_option linter.unusedVariables false

theorem look_all {t : List Wr} {k : V} {ys : List Nat} (h : AllI t.length ys) (hn : ∀ i ∈ ys, eqV (t.getD i dW).k k = false) : lookT t k = none := by
  rw [lookT_back t k t.length 0 (by omega) (fun j _ hj => hn j (h j hj)), List.take_zero]
  rfl
theorem look_one {t : List Wr} {k : V} {pre : List Nat} (h : SomeI t.length pre) {o : Option V} (hq : ∀ q i, pre = q ++ [i] → (∀ j ∈ q, eqV (t.getD j dW).k k = false) ∧ eqV (t.getD i dW).k k = true ∧ o = beh (t.getD i dW)) : lookT t k = o := by
  obtain ⟨q, i, e, hi, hj⟩ := h
  obtain ⟨h1, h2, rfl⟩ := hq q i e
  rw [lookT_back t k (t.length - (i + 1)) (i + 1) (by omega) (fun j h3 h4 => h1 j (hj j h3 h4)), lookT_take t k i hi, if_pos h2]
theorem vb_own {β : Type} (B : Nat) (f : β → V) : Go.Own (fun s W => Vb W B (f s)) := fun s X Y row hs hg hrow =>
  hs.kept hg (fun e' => by obtain ⟨o, ho, hc⟩ := hrow B e'.symm; rw [show X.heap[B]? = _ from hs] at ho; cases ho; cases hc)
theorem row_own {β : Type} (B : Nat) (o : β → Obj) (hc : ∀ s, (o s).isCells = true) : Go.Own (fun s W => W.heap[B]? = some (o s)) := fun s X Y row hs hg hrow => by
  refine (hg.block B (Array.getElem?_eq_some_iff.1 hs).1 (fun e' => ?_)).trans hs
  obtain ⟨o', ho, hc'⟩ := hrow B e'.symm
  rw [hs] at ho
  cases ho
  rw [hc] at hc'
  cases hc'
theorem boxed_put {W : World} {b : Nat} {t : TypeId} {v : Value} (h : Boxed W b t v) {l : Nat} {o : Obj} (o' : Obj) (hl : W.heap[l]? = some o) (ho : o.isCells = false) : Boxed (W.putObj l o') b t v :=
  h.kept (grownBy_putObj' W l o') (fun e => by
    have e : b = l := Option.some.inj e
    subst e
    rw [show W.heap[b]? = _ from h] at hl
    cases hl
    cases ho)
theorem vb_put {W : World} {b : Nat} {v : V} (h : Vb W b v) {l : Nat} {o : Obj} (o' : Obj) (hl : W.heap[l]? = some o) (ho : o.isCells = false) : Vb (W.putObj l o') b v :=
  h.kept (grownBy_putObj' W l o') (fun e => by
    have e : b = l := Option.some.inj e
    subst e
    rw [show W.heap[b]? = _ from h] at hl
    cases hl
    cases ho)
section
attribute [local go_sem] Oper.semAt_some
set_option maxRecDepth 100000 in
set_option maxHeartbeats 1000000 in
theorem look_any : TabLook := by
  intro sv t k w hR
  have HR := hide hR
  obtain ⟨a0, c0, rfl, _⟩ := hR
  unfold V.val
  refine (callsIn_wide (n := 5)).1 ?_
  refine callsIn_of_wp_marks Tryz.func131 rfl trivial ?_ rfl
  simp only [Tryz.ntmps131, List.size_toArray, List.length_nil, List.length_cons, Nat.reduceAdd, Nat.reduceSub, Array.replicate_succ, Array.replicate_zero, List.push_toArray, List.append_toArray, List.nil_append, List.cons_append]
  gi_wp2_with (refine ⟨trivial, ?_⟩; gi_at_call 132; refine (callsIn_wide.2 (back_any _ _ _ _)).mono ?_; rintro e w' ⟨rfl, rfl⟩)
  have hB0 : Below w.heap.size w ((((w.alloc (.cells #[.int .i64 k.k, .int .i64 k.n, .string k.s] 31)).alloc (.cells #[.int .i64 0, .int .i64 0, .string ⟨#[]⟩] 31)).alloc (.cells #[.bool false] 4)).alloc (.cells #[.slice a0 t.length c0] 37)) :=
    ((((Below.refl _ w).alloc (Nat.le_refl _) _).alloc (by simp) _).alloc (by simp; omega) _).alloc (by simp; omega) _
  have b0 := (((Vb.new w k).kept (World.grownBy_alloc _ (.cells #[.int .i64 0, .int .i64 0, .string ⟨#[]⟩] 31) none) (by simp)).kept (World.grownBy_alloc _ (.cells #[.bool false] 4) none) (by simp)).kept (World.grownBy_alloc _ (.cells #[.slice a0 t.length c0] 37) none) (by simp)
  have b1 := ((Vb.new (w.alloc (.cells #[.int .i64 k.k, .int .i64 k.n, .string k.s] 31)) ⟨0, 0, ⟨#[]⟩⟩).kept (World.grownBy_alloc _ (.cells #[.bool false] 4) none) (by simp)).kept (World.grownBy_alloc _ (.cells #[.slice a0 t.length c0] 37) none) (by simp)
  have b2 := (Boxed.new ((w.alloc (.cells #[.int .i64 k.k, .int .i64 k.n, .string k.s] 31)).alloc (.cells #[.int .i64 0, .int .i64 0, .string ⟨#[]⟩] 31)) 4 (.bool false)).alloc (.cells #[.slice a0 t.length c0] 37)
  have b3 := Boxed.new (((w.alloc (.cells #[.int .i64 k.k, .int .i64 k.n, .string k.s] 31)).alloc (.cells #[.int .i64 0, .int .i64 0, .string ⟨#[]⟩] 31)).alloc (.cells #[.bool false] 4)) 37 (.slice a0 t.length c0)
  dsimp only at b1
  simp only [World.size_alloc] at b1 b2 b3
  obtain ⟨W0, hW0⟩ : ∃ W0, ((((w.alloc (.cells #[.int .i64 k.k, .int .i64 k.n, .string k.s] 31)).alloc (.cells #[.int .i64 0, .int .i64 0, .string ⟨#[]⟩] 31)).alloc (.cells #[.bool false] 4)).alloc (.cells #[.slice a0 t.length c0] 37)) = W0 := ⟨_, rfl⟩
  have hz0 : W0.heap.size = w.heap.size + 1 + 1 + 1 + 1 := by rw [← hW0]; simp
  rw [hW0] at hB0 b0 b1 b2 b3 ⊢
  clear hW0
  obtain ⟨n0, HN0⟩ : ∃ n0, Hid (w.heap.size = n0) := ⟨_, rfl⟩
  rw [HN0.out] at hB0 b0 b1 b2 b3 hz0 ⊢
  refine wpIn_rangeFunc_ownH (encs := fun x : Nat => #[.int .i64 (x : Int), (t.getD x dW).val]) (Kp := Below (n0 + 1 + 1 + 1 + 1)) (S := AllI t.length) (Sp := SomeI t.length) (N := t.length) (w0 := W0) rfl (by omega) (gf := 133) (lb := #[.pointer (some ⟨n0 + 1 + 1 + 1, 0, none⟩)]) rfl trivial (enters_of Tryz.func133 (by kernel_rfl) rfl)
    (fun l J Jx W hW hJ hJx hY h0 => back1_in _ (by omega) l (n0 + 1 + 1 + 1) (n0 + 1 + 1 + 1 + 1) W.heap.size a0 c0 t w HR.out (by rw [HN0.out]; omega) (by omega) J Jx hJ hY W ((show Below w.heap.size w W0 by rw [HN0.out]; exact hB0).trans (hW.mono (by rw [HN0.out, hz0]; omega))) ((hW.cell (p := ⟨n0 + 1 + 1 + 1, 0, none⟩) (by rw [hz0]; show n0 + 1 + 1 + 1 < _; omega)).trans b3.cell) h0) belowK_t (belowK_b (by omega)) (Below.refl _ _) (fun _ => rfl)
    (fun pre W => (Vb W n0 k ∧ Vb W (n0 + 1) ⟨0, 0, ⟨#[]⟩⟩ ∧ Boxed W (n0 + 1 + 1) 4 (.bool false)) ∧ (∀ i ∈ pre, eqV (t.getD i dW).k k = false) ∧ Below n0 w W ∧ n0 + 1 + 1 + 1 + 1 ≤ W.heap.size)
    (fun c pre W => (∃ o : Option V, (Vb W (n0 + 1) (obV o) ∧ Boxed W (n0 + 1 + 1) 4 (.bool o.isSome)) ∧ c = .ret ∧ ∀ q i, pre = q ++ [i] → (∀ j ∈ q, eqV (t.getD j dW).k k = false) ∧ eqV (t.getD i dW).k k = true ∧ o = beh (t.getD i dW)) ∧ Below n0 w W)
    ?hI ?hIx ⟨⟨b0, b1, b2⟩, (fun i hi => nomatch hi), hB0, by omega⟩
    (fun x a' W => ∃ g, (n0 + 1 + 1 + 1 + 1 ≤ g ∧ W.heap[g]? = some (.cells #[.int .i64 (t.getD x dW).k.k, .int .i64 (t.getD x dW).k.n, .string (t.getD x dW).k.s, .int .i64 (t.getD x dW).v.k, .int .i64 (t.getD x dW).v.n, .string (t.getD x dW).v.s, .bool (t.getD x dW).g] 62 (0, 0))) ∧
      a' = { tmps := #[.slice a0 t.length c0, .agg #[.int .i64 k.k, .int .i64 k.n, .string k.s], undef, .pointer (some ⟨n0, 0, none⟩), .pointer (some ⟨n0 + 1, 0, none⟩), .pointer (some ⟨n0 + 1 + 1, 0, none⟩), undef, .pointer (some ⟨g, 0, none⟩), .slice a0 t.length c0, .func (.func 133) #[] #[.pointer (some ⟨n0 + 1 + 1 + 1, 0, none⟩)], .int .i64 (x : Int), (t.getD x dW).val, undef, undef, undef, undef, undef, undef, undef, undef, undef], defers := [] }) ?hAx ?assign ?body ?done ?stop
  case hI =>
    refine OwnFrom.and (OwnFrom.and (Go.Own.from (vb_own n0 (fun _ => k)) _) (OwnFrom.and (Go.Own.from (vb_own (n0 + 1) (fun _ => ⟨0, 0, ⟨#[]⟩⟩)) _) (Go.Own.from (boxed_own (n0 + 1 + 1) 4 (fun _ => .bool false)) _))) (OwnFrom.and (fun _ _ _ _ h _ _ => h) (OwnFrom.and (ownFrom_below (by rw [HN0.out]; exact Nat.le_refl _) (by omega)) (fun _ _ _ _ h hg _ => Nat.le_trans h hg.size)))
  case hIx =>
    intro c
    refine OwnFrom.and ?_ (ownFrom_below (by rw [HN0.out]; exact Nat.le_refl _) (by omega))
    rintro pre A B row ⟨o, ⟨h0, h1⟩, hc⟩ hg hr
    exact ⟨o, ⟨(Go.Own.from (vb_own (β := Unit) (n0 + 1) (fun _ => obV o)) _) () A B row h0 hg hr, (Go.Own.from (boxed_own (β := Unit) (n0 + 1 + 1) 4 (fun _ => .bool o.isSome)) _) () A B row h1 hg hr⟩, hc⟩
  case hAx =>
    rintro x a' _ A B row ⟨g, ⟨hg1, hg2⟩, ha⟩ hg hr
    exact ⟨g, ⟨hg1, (Go.Own.from (row_own (β := Unit) g (fun _ => _) (fun _ => rfl)) _) () A B row hg2 hg hr⟩, ha⟩
  case assign =>
    rintro l pre x W K ⟨⟨k0, k1, k2⟩, hq, hB, hsz⟩ hK
    obtain ⟨y, hy⟩ : ∃ y, t.getD x dW = y := ⟨_, rfl⟩
    dsimp only at hK ⊢
    rw [hy] at hK ⊢
    have HK := hide hK
    have Hq := hide hq
    clear hK hy hq
    unfold Wr.val at HK ⊢
    have hga := World.grownBy_alloc W (.cells #[.int .i64 y.k.k, .int .i64 y.k.n, .string y.k.s, .int .i64 y.v.k, .int .i64 y.v.n, .string y.v.s, .bool y.g] 62) none
    gi_wp2
    exact HK.out _ _ (KeepsFrom.of_grownBy hga (fun j e => by cases e)) ((Below.refl _ W).grown hga hsz (by simp)) ⟨⟨k0.kept hga (by simp), k1.kept hga (by simp), k2.kept hga (by simp)⟩, Hq.out, hB.trans ((Below.refl _ W).grown hga (by omega) (by simp)), Nat.le_trans hsz hga.size⟩ ⟨W.heap.size, ⟨hsz, heap_alloc_new _ _⟩, rfl⟩
  case body =>
    rintro l pre x a' W hl hr ⟨⟨k0, k1, k2⟩, hq, hB, hsz⟩ ⟨g, ⟨hg1, hg2⟩, rfl⟩ hlt
    have Hq := hide hq
    obtain ⟨y, hy⟩ : ∃ y, t.getD x dW = y := ⟨_, rfl⟩
    rw [hy] at hg2 ⊢
    have Hy := hide hy
    clear hq hy hlt hr
    have y0 : W.cell? ⟨g, 0, none⟩ = some (.int .i64 y.k.k) := by rw [cell_of_row W g 0 _ 62 (0, 0) hg2]; rfl
    have y1 : W.cell? ⟨g, 1, none⟩ = some (.int .i64 y.k.n) := by rw [cell_of_row W g 1 _ 62 (0, 0) hg2]; rfl
    have y2 : W.cell? ⟨g, 2, none⟩ = some (.string y.k.s) := by rw [cell_of_row W g 2 _ 62 (0, 0) hg2]; rfl
    have y3 : W.cell? ⟨g, 3, none⟩ = some (.int .i64 y.v.k) := by rw [cell_of_row W g 3 _ 62 (0, 0) hg2]; rfl
    have y4 : W.cell? ⟨g, 4, none⟩ = some (.int .i64 y.v.n) := by rw [cell_of_row W g 4 _ 62 (0, 0) hg2]; rfl
    have y5 : W.cell? ⟨g, 5, none⟩ = some (.string y.v.s) := by rw [cell_of_row W g 5 _ 62 (0, 0) hg2]; rfl
    have y6 : W.cell? ⟨g, 6, none⟩ = some (.bool y.g) := by rw [cell_of_row W g 6 _ 62 (0, 0) hg2]; rfl
    have q0 := k0.c0
    have q1 := k0.c1
    have q2 := k0.c2
    have heq : ∀ W0 : World, (binOp .eql 31 (.agg #[.int .i64 y.k.k, .int .i64 y.k.n, .string y.k.s]) (.agg #[.int .i64 k.k, .int .i64 k.n, .string k.s])).run Tryz.prog W0 = .ok (.bool (eqV y.k k)) W0 := fun W0 => run_eqV _ _ _ _ _ _ W0
    clear hg2
    unfold Wr.val
    cases hE : eqV y.k k with
    | false =>
      rw [hE] at heq
      have HE := hide hE
      clear hE
      gi_wp2
      refine ⟨KeepsFrom.refl _ _, Below.refl _ _, ⟨k0, k1, k2⟩, fun i hi => ?_, hB, hsz⟩
      rcases List.mem_append.1 hi with h | h
      · exact Hq.out i h
      · rw [List.mem_singleton.1 h, Hy.out]
        exact HE.out
    | true =>
      rw [hE] at heq
      have HE := hide hE
      clear hE
      have hm := fun W0 => m_behind y W0
      obtain ⟨o, HO⟩ : ∃ o, Hid (beh y = o) := ⟨_, rfl⟩
      rw [HO.out] at hm
      obtain ⟨z, HZ⟩ : ∃ z, Hid (obV o = z) := ⟨_, rfl⟩
      obtain ⟨r, HR2⟩ : ∃ r, Hid (o.isSome = r) := ⟨_, rfl⟩
      rw [HZ.out, HR2.out] at hm
      unfold Wr.val V.val at hm
      have HM := hide hm
      clear hm
      gi_wp2_with (refine ⟨trivial, ?_⟩; gi_at_call 83; refine (CallsIn.inRound l (callsIn_wide.2 (HM.out _))).mono ?_; rintro e w5 ⟨rfl, hg5⟩; have l1 := k1.kept hg5 (by simp); have l2 := k2.kept hg5 (by simp); have v0 := l1.c0; have v1 := l1.c1; have v2 := l1.c2; have vf := l1.fz; have hP := vb_set l1 z; have hb6 := l2.kept hP.2 (by simp); have c6 := hb6.cell; have f6 := hb6.frozen)
      have hb7 := hb6.set (.bool r)
      have hP7 := hP.1.kept (grownBy_setCell' _ (n0 + 1 + 1) (.bool r)) (by simp)
      refine ⟨(KeepsFrom.of_grownBy hg5 (fun j e => by cases e)).trans (((((KeepsOthers.setCell _ _ _).trans (KeepsOthers.setCell _ _ _)).trans (KeepsOthers.setCell _ _ _)).trans (KeepsOthers.setCell _ _ _)).from _), ⟨o, ⟨by rw [HZ.out]; exact hP7, by rw [HR2.out]; exact hb7⟩, rfl, fun q i e => ?_⟩, ((((hB.grown hg5 (by omega) (by simp)).setCell (p := ⟨n0 + 1, 0, none⟩) (Nat.le_succ _) _).setCell (p := ⟨n0 + 1, 1, none⟩) (Nat.le_succ _) _).setCell (p := ⟨n0 + 1, 2, none⟩) (Nat.le_succ _) _).setCell (p := ⟨n0 + 1 + 1, 0, none⟩) (by show n0 ≤ n0 + 1 + 1; omega) _⟩
      obtain ⟨rfl, h2⟩ := List.append_inj' e rfl
      obtain rfl : x = i := List.cons.inj h2 |>.1
      rw [Hy.out]
      exact ⟨Hq.out, HE.out, HO.out.symm⟩
  case done =>
    rintro D ys W hD hS ⟨⟨k0, k1, k2⟩, hq, hB, hsz⟩ hK
    have hall := hide (look_all hS hq)
    have v0 := k1.c0
    have v1 := k1.c1
    have v2 := k1.c2
    have vf := k1.fz
    have hP := vb_set k1 ⟨0, 0, ⟨#[]⟩⟩
    have hb6 := k2.kept hP.2 (by simp)
    have c6 := hb6.cell
    have f6 := hb6.frozen
    have hb7 := hb6.set (.bool false)
    have hP7 := hP.1.kept (grownBy_setCell' _ (n0 + 1 + 1) (.bool false)) (by simp)
    have hKO := (((KeepsOthers.setCell W ⟨n0 + 1, 0, none⟩ (.int .i64 0)).trans (KeepsOthers.setCell _ ⟨n0 + 1, 1, none⟩ (.int .i64 0))).trans (KeepsOthers.setCell _ ⟨n0 + 1, 2, none⟩ (.string ⟨#[]⟩))).trans (KeepsOthers.setCell _ ⟨n0 + 1 + 1, 0, none⟩ (.bool false))
    have hb3 := (((hB.setCell (p := ⟨n0 + 1, 0, none⟩) (Nat.le_succ _) (.int .i64 0)).setCell (p := ⟨n0 + 1, 1, none⟩) (Nat.le_succ _) (.int .i64 0)).setCell (p := ⟨n0 + 1, 2, none⟩) (Nat.le_succ _) (.string ⟨#[]⟩)).setCell (p := ⟨n0 + 1 + 1, 0, none⟩) (by show n0 ≤ n0 + 1 + 1; omega) (.bool false)
    have hK' := hKO.same D _ hK rfl
    gi_wp2
    refine ⟨by simp, .inl ⟨_, _, rfl, run_takeDeferred hK', ?_⟩⟩
    refine ⟨_, results_cc rfl _ _ _ _ _ _ rfl rfl (load_vb (vb_put hP7 _ hK' rfl)) (load_bool (boxed_put hb7 _ hK' rfl).cell), ?_⟩
    refine ⟨by rw [hall.out]; rfl, ?_⟩
    exact Below.toGrown (by rw [HN0.out]; exact hb3.trans (belowK_b (w := w) (by rw [HN0.out]; exact Nat.le_refl _) _ D _ _ (by rw [HN0.out]; omega) hK' rfl rfl))
  case stop =>
    rintro D c pre W hD hSp ⟨⟨o, ⟨k1, k2⟩, rfl, hbad⟩, hB⟩ hK
    have hall := hide (look_one hSp hbad)
    gi_wp2
    refine ⟨by simp, .inl ⟨_, _, rfl, run_takeDeferred hK, ?_⟩⟩
    refine ⟨_, results_cc rfl _ _ _ _ _ _ rfl rfl (load_vb (vb_put k1 _ hK rfl)) (load_bool (boxed_put k2 _ hK rfl).cell), ?_⟩
    refine ⟨by rw [hall.out]; rfl, ?_⟩
    exact Below.toGrown (by rw [HN0.out]; exact hB.trans (belowK_b (w := w) (by rw [HN0.out]; exact Nat.le_refl _) _ D _ _ (by rw [HN0.out]; omega) hK rfl rfl))
end

end Go.Proofs.YtpoahegccjgnjaaGreatDoor

namespace Go.Proofs.YtpoahegccjgnjaaGreatDoor
open Go.RowKit
set_option linter.unusedVariables false

set_option maxHeartbeats 400000 in
theorem l_number (n : Int) (w : World) : Calls Tryz.prog 10 #[.int .i64 n] w fun e w' => e = .returned (nV n).val ∧ w.grownBy w' none := by
  have hga := World.grownBy_alloc w (.cells #[.int .i64 1, .int .i64 n, .string ⟨#[]⟩] 31) none
  have hV : Vb (w.alloc (.cells #[.int .i64 1, .int .i64 n, .string ⟨#[]⟩] 31)) w.heap.size (nV n) := Vb.new w (nV n)
  go_enter Tryz.func10, Tryz.ntmps10
  go_wp2
  refine bodyPost_ret (results_v1 rfl _ w.heap.size _ (nV n) rfl hV) rfl ?_
  exact ⟨rfl, hga⟩
theorem l_num (n : Int) : Hid (∀ W0, Calls Tryz.prog 10 #[.int .i64 n] W0 fun e w' => e = .returned (.agg #[.int .i64 1, .int .i64 n, .string ⟨#[]⟩]) ∧ W0.grownBy w' none) := fun W0 => l_number n W0
theorem ins_lit {w : World} {p : Nat} (l : List In) (hl : l.length ≤ 1000) (h : w.heap[p]? = some (.cells (ics l).toArray 44 (0, 0))) : Ins w (.slice (some ⟨p, 0, none⟩) l.length l.length) l := by
  refine ⟨some ⟨p, 0, none⟩, l.length, rfl, Nat.le_refl _, by unfold maxLen; omega, fun i hi => ⟨p, 0, rfl, (Array.getElem?_eq_some_iff.1 h).1, fun j u hu => ?_⟩⟩
  have hj : j < 7 := by have := (List.getElem?_eq_some_iff.1 hu).1; simpa [In.cells] using this
  rw [show 0 + i * 7 + j = i * 7 + j by omega, cell_of_row w p _ _ 44 (0, 0) h]
  rw [← ics_at l i j hi hj] at hu
  simpa using hu
theorem prog5_wf : ∀ x ∈ prog5, x.wf := by
  have h : ∀ op a b c, ir op → ir a → ir b → ir c → ∀ v, v.wf → In.wf ⟨op, a, b, c, v⟩ := fun _ _ _ _ h1 h2 h3 h4 _ hv => ⟨hv, h1, h2, h3, h4⟩
  have k : ∀ n : Int, 0 ≤ n → n ≤ 100 → ir n := fun n h0 h1 => by unfold ir; omega
  intro x hx
  simp only [prog5, List.mem_cons, List.not_mem_nil, or_false] at hx
  rcases hx with rfl | rfl | rfl | rfl
  · exact h _ _ _ _ (k _ (by decide) (by decide)) (k _ (by decide) (by decide)) (k _ (by decide) (by decide)) (k _ (by decide) (by decide)) _ (rv_nV 2 (by decide) (by decide)).1
  all_goals exact h _ _ _ _ (k _ (by decide) (by decide)) (k _ (by decide) (by decide)) (k _ (by decide) (by decide)) (k _ (by decide) (by decide)) _ zV_wf
theorem twf_none : Twf (fun _ => none) := fun _ _ h => by cases h
theorem rw_sl {α : Type} {c : α → List Value} {n : Nat} {w : World} {v : Value} {l : List α} (h : Rw c n w v l) : ∃ a m cp, v = .slice a m cp := by
  obtain ⟨a, cp, rfl, _⟩ := h
  exact ⟨_, _, _, rfl⟩
theorem rw_six {w : World} {v : Value} {l : List V} (h : Rw V.cells 3 w v l) (h6 : l.length = 6) : ∃ b off cap, v = .slice (some ⟨b, off, none⟩) 6 cap := by
  obtain ⟨a, cp, rfl, _, _, hc⟩ := h
  obtain ⟨b, off, rfl, _⟩ := hc 0 (by omega)
  rw [h6]
  exact ⟨_, _, _, rfl⟩
def LivA (e : Ending) (w' : World) : Prop := ∃ a1 m1 c1 a2 m2 c2 a3 m3 c3 b off cap, e = .returned (.tuple #[.agg #[.slice a1 m1 c1, .slice a2 m2 c2, .slice a3 m3 c3, .int .i64 0, .int .i64 0, .int .i64 0, .int .i64 0, .string ⟨#[]⟩, .int .i64 3, .slice (some ⟨b, off, none⟩) 6 cap], .int .i64 0]) ∧ Rw V.cells 3 w' (.slice (some ⟨b, off, none⟩) 6 cap) rg7
def LivB (e : Ending) : Prop := ∃ a4 m4 c4 a5 m5 c5 a6 m6 c6 a7 m7 c7, e = .returned (.tuple #[.agg #[.slice a4 m4 c4, .slice a5 m5 c5, .slice a6 m6 c6, .int .i64 0, .int .i64 1, .int .i64 1, .int .i64 7, .string ⟨#[]⟩, .int .i64 0, .slice a7 m7 c7], .int .i64 0])
theorem liv_a (v rv : Value) (w : World) (hI : Ins w v prog5) (hG : Glob w) (hr : Rw V.cells 3 w rv (rgF (nV 5))) : Calls Tryz.prog 5 #[v, .agg #[.int .i64 0, rv], .nilIface] w fun e w' => LivA e w' ∧ w.grownBy w' none := by
  refine (m_run v rv .nilIface prog5 0 (rgF (nV 5)) (fun _ => none) w hI prog5_wf hG hr (fun x hx => (rgF_ok (rv_nV 5 (by decide) (by decide)) x hx).1) twf_none (.inl rfl) (fun W0 d _ => ask_nil _ W0)).mono ?_
  rintro e w' ⟨⟨x, rfl, hE⟩, hg⟩
  rw [(run5 _).1] at hE
  rw [(run5 (fun _ => none)).2]
  obtain ⟨pv, ov, kv, rv, rfl, a, b, c, d⟩ := hE
  obtain ⟨a1, m1, c1, rfl⟩ := rw_sl a
  obtain ⟨a2, m2, c2, rfl⟩ := rw_sl b
  obtain ⟨a3, m3, c3, rfl⟩ := rw_sl c
  obtain ⟨b', off, cap, rfl⟩ := rw_six d rfl
  exact ⟨⟨_, _, _, _, _, _, _, _, _, _, _, _, rfl, d⟩, hg⟩
theorem liv_b (v rv : Value) (w : World) (hI : Ins w v prog5) (hG : Glob w) (hr : Rw V.cells 3 w rv rg7) : Calls Tryz.prog 5 #[v, .agg #[.int .i64 3, rv], .nilIface] w fun e w' => LivB e ∧ w.grownBy w' none := by
  refine (m_run v rv .nilIface prog5 3 rg7 (fun _ => none) w hI prog5_wf hG hr (fun x hx => (rg7_ok x hx).1) twf_none (.inl rfl) (fun W0 d _ => ask_nil _ W0)).mono ?_
  rintro e w' ⟨⟨x, rfl, hE⟩, hg⟩
  rw [(run7 _).1] at hE
  rw [(run7 (fun _ => none)).2]
  obtain ⟨pv, ov, kv, rv, rfl, a, b, c, d⟩ := hE
  obtain ⟨a1, m1, c1, rfl⟩ := rw_sl a
  obtain ⟨a2, m2, c2, rfl⟩ := rw_sl b
  obtain ⟨a3, m3, c3, rfl⟩ := rw_sl c
  obtain ⟨a4, m4, c4, rfl⟩ := rw_sl d
  exact ⟨⟨_, _, _, _, _, _, _, _, _, _, _, _, rfl⟩, hg⟩
set_option maxRecDepth 100000 in
set_option maxHeartbeats 2000000 in
theorem mlives_any (w : World) (hG : Glob w) : Calls Tryz.prog 4 #[] w fun e w' => e = .returned (.bool true) ∧ w.grownBy w' none := by
  have h57 : Hid (∀ W0 : World, (binOp .eql 31 (.agg #[.int .i64 1, .int .i64 7, .string ⟨#[]⟩]) (.agg #[.int .i64 1, .int .i64 7, .string ⟨#[]⟩])).run Tryz.prog W0 = .ok (.bool true) W0) := fun W0 => by rw [run_eqV, eqV_self]
  go_enter Tryz.func4, Tryz.ntmps4
  go_upto_region 2 with (go_at_call 10; refine ((l_num _).out _).mono ?_; rintro e w1 ⟨rfl, hg1⟩)
  have hA := World.grownBy_alloc w1 (.cells #[.int .i64 1, .int .i64 1, .int .i64 0, .int .i64 0, .int .i64 1, .int .i64 2, .string ⟨#[]⟩, .int .i64 3, .int .i64 0, .int .i64 0, .int .i64 1, .int .i64 0, .int .i64 0, .string ⟨#[]⟩, .int .i64 17, .int .i64 0, .int .i64 0, .int .i64 0, .int .i64 0, .int .i64 0, .string ⟨#[]⟩, .int .i64 18, .int .i64 0, .int .i64 0, .int .i64 0, .int .i64 0, .int .i64 0, .string ⟨#[]⟩] 44) none
  have hI : Ins (w1.alloc (.cells #[.int .i64 1, .int .i64 1, .int .i64 0, .int .i64 0, .int .i64 1, .int .i64 2, .string ⟨#[]⟩, .int .i64 3, .int .i64 0, .int .i64 0, .int .i64 1, .int .i64 0, .int .i64 0, .string ⟨#[]⟩, .int .i64 17, .int .i64 0, .int .i64 0, .int .i64 0, .int .i64 0, .int .i64 0, .string ⟨#[]⟩, .int .i64 18, .int .i64 0, .int .i64 0, .int .i64 0, .int .i64 0, .int .i64 0, .string ⟨#[]⟩] 44)) (.slice (some ⟨w1.heap.size, 0, none⟩) 4 4) prog5 := ins_lit prog5 (by decide) (heap_alloc_new w1 (.cells #[.int .i64 1, .int .i64 1, .int .i64 0, .int .i64 0, .int .i64 1, .int .i64 2, .string ⟨#[]⟩, .int .i64 3, .int .i64 0, .int .i64 0, .int .i64 1, .int .i64 0, .int .i64 0, .string ⟨#[]⟩, .int .i64 17, .int .i64 0, .int .i64 0, .int .i64 0, .int .i64 0, .int .i64 0, .string ⟨#[]⟩, .int .i64 18, .int .i64 0, .int .i64 0, .int .i64 0, .int .i64 0, .int .i64 0, .string ⟨#[]⟩] 44))
  have hg2 := grown_up hg1 hA
  generalize w1.alloc (.cells #[.int .i64 1, .int .i64 1, .int .i64 0, .int .i64 0, .int .i64 1, .int .i64 2, .string ⟨#[]⟩, .int .i64 3, .int .i64 0, .int .i64 0, .int .i64 1, .int .i64 0, .int .i64 0, .string ⟨#[]⟩, .int .i64 17, .int .i64 0, .int .i64 0, .int .i64 0, .int .i64 0, .int .i64 0, .string ⟨#[]⟩, .int .i64 18, .int .i64 0, .int .i64 0, .int .i64 0, .int .i64 0, .int .i64 0, .string ⟨#[]⟩] 44) = W2 at *
  generalize w1.heap.size = p at *
  go_upto_region 3 with (first
    | (go_at_call 10; refine ((l_num _).out _).mono ?_; rintro e w3 ⟨rfl, hg3⟩)
    | (go_at_call 11; refine (m_first (nV 5) _).mono ?_; rintro e w4 ⟨⟨f, rfl, hF⟩, hg4⟩)
    | (go_at_call 5; refine (liv_a _ _ _ (hI.keptN (grown_up hg3 hg4)) (hG.keptN (grown_up hg2 (grown_up hg3 hg4))) hF).mono ?_; rintro e w5 ⟨⟨a1, m1, c1, a2, m2, c2, a3, m3, c3, b, off, cap, rfl, hR⟩, hg5⟩))
  have hg25 := grown_up (grown_up hg3 hg4) hg5
  have hA6 := World.grownBy_alloc w5 (.cells #[.slice a1 m1 c1, .slice a2 m2 c2, .slice a3 m3 c3, .int .i64 0, .int .i64 0, .int .i64 0, .int .i64 0, .string ⟨#[]⟩, .int .i64 3, .slice (some ⟨b, off, none⟩) 6 cap] 33) none
  have hE6 := heap_alloc_new w5 (.cells #[.slice a1 m1 c1, .slice a2 m2 c2, .slice a3 m3 c3, .int .i64 0, .int .i64 0, .int .i64 0, .int .i64 0, .string ⟨#[]⟩, .int .i64 3, .slice (some ⟨b, off, none⟩) 6 cap] 33)
  have hI6 := hI.keptN (grown_up hg25 hA6)
  have hR6 := hR.keptN hA6
  have hg6 := grown_up (grown_up hg2 hg25) hA6
  clear hg3 hg4 hg5 hF hI hR hA6 hg25 hg2 hg1
  generalize w5.alloc (.cells #[.slice a1 m1 c1, .slice a2 m2 c2, .slice a3 m3 c3, .int .i64 0, .int .i64 0, .int .i64 0, .int .i64 0, .string ⟨#[]⟩, .int .i64 3, .slice (some ⟨b, off, none⟩) 6 cap] 33) = W6 at *
  obtain ⟨ea, hea⟩ : ∃ ea, w5.heap.size = ea := ⟨_, rfl⟩
  rw [hea] at hE6 ⊢
  have e4 : W6.cell? ⟨ea, 4, none⟩ = some (.int .i64 0) := by rw [cell_of_row _ _ _ _ _ _ hE6]; rfl
  have e8 : W6.cell? ⟨ea, 8, none⟩ = some (.int .i64 3) := by rw [cell_of_row _ _ _ _ _ _ hE6]; rfl
  have e9 : W6.cell? ⟨ea, 9, none⟩ = some (.slice (some ⟨b, off, none⟩) 6 cap) := by rw [cell_of_row _ _ _ _ _ _ hE6]; rfl
  go_upto_region 4 with (go_at_call 5; refine (liv_b _ _ _ hI6 (hG.keptN hg6) hR6).mono ?_; rintro e w7 ⟨⟨a4, m4, c4, a5, m5, c5, a6, m6, c6, a7, m7, c7, rfl⟩, hg7⟩)
  have hA8 := World.grownBy_alloc w7 (.cells #[.slice a4 m4 c4, .slice a5 m5 c5, .slice a6 m6 c6, .int .i64 0, .int .i64 1, .int .i64 1, .int .i64 7, .string ⟨#[]⟩, .int .i64 0, .slice a7 m7 c7] 33) none
  have hE8 := heap_alloc_new w7 (.cells #[.slice a4 m4 c4, .slice a5 m5 c5, .slice a6 m6 c6, .int .i64 0, .int .i64 1, .int .i64 1, .int .i64 7, .string ⟨#[]⟩, .int .i64 0, .slice a7 m7 c7] 33)
  have hg68 := grown_up hg7 hA8
  have hR8 := hR6.keptN hg68
  have e4 := cell_g e4 hg68
  have e8 := cell_g e8 hg68
  have e9 := cell_g e9 hg68
  have hg8 := grown_up hg6 hg68
  clear hg7 hA8 hg68 hR6 hI6 hg6
  generalize w7.alloc (.cells #[.slice a4 m4 c4, .slice a5 m5 c5, .slice a6 m6 c6, .int .i64 0, .int .i64 1, .int .i64 1, .int .i64 7, .string ⟨#[]⟩, .int .i64 0, .slice a7 m7 c7] 33) = W8 at *
  obtain ⟨eb, heb⟩ : ∃ eb, w7.heap.size = eb := ⟨_, rfl⟩
  rw [heb] at hE8 ⊢
  have f4 : W8.cell? ⟨eb, 4, none⟩ = some (.int .i64 1) := by rw [cell_of_row _ _ _ _ _ _ hE8]; rfl
  have f5 : W8.cell? ⟨eb, 5, none⟩ = some (.int .i64 1) := by rw [cell_of_row _ _ _ _ _ _ hE8]; rfl
  have f6 : W8.cell? ⟨eb, 6, none⟩ = some (.int .i64 7) := by rw [cell_of_row _ _ _ _ _ _ hE8]; rfl
  have f7 : W8.cell? ⟨eb, 7, none⟩ = some (.string ⟨#[]⟩) := by rw [cell_of_row _ _ _ _ _ _ hE8]; rfl
  obtain ⟨_, _, e0, _, _, hc⟩ := hR8
  obtain ⟨b', off', e2, _, hcc⟩ := hc 0 (by decide)
  rw [e2] at e0
  have e3 := Option.some.inj (Value.slice.inj e0).1
  obtain rfl : b = b' := congrArg Addr.block e3
  obtain rfl : off = off' := congrArg Addr.off e3
  have r0 : W8.cell? ⟨b, off, none⟩ = some (.int .i64 1) := hcc 0 _ rfl
  have r1 : W8.cell? ⟨b, off + 1, none⟩ = some (.int .i64 7) := hcc 1 _ rfl
  have r2 : W8.cell? ⟨b, off + 2, none⟩ = some (.string ⟨#[]⟩) := hcc 2 _ rfl
  clear hc hcc e0 e2 e3 hE8 hE6
  have q := fun (o k : Nat) (v : Value) (hc : W8.cell? ⟨o, k, none⟩ = some v) (w' : World) (h : W8.grownBy w' none) => cell_g hc h
  have Q1 := q _ _ _ e4
  have Q2 := q _ _ _ e8
  have Q3 := q _ _ _ e9
  have Q4 := q _ _ _ f4
  have Q5 := q _ _ _ f5
  have Q6 := q _ _ _ f6
  have Q7 := q _ _ _ f7
  have Q8 := q _ _ _ r0
  have Q9 := q _ _ _ r1
  have Q10 := q _ _ _ r2
  have dr := grown_dr W8
  have h57 := h57.out
  clear q
  go_region_held_law (fun w' => W8.grownBy w' none) (first | assumption | exact dr) (first
    | (go_at_call 10; refine ((l_num _).out _).mono ?_; rintro e w9 ⟨rfl, hg9⟩; have S9 : W8.grownBy w9 none := by first | exact grown_up dr hg9 | exact grown_up S9 hg9 | exact grown_up (by assumption) hg9))
  go_wp2
  go_ret
  exact ⟨rfl, by first | exact grown_up hg8 (by assumption) | exact grown_up hg8 S9⟩

end Go.Proofs.YtpoahegccjgnjaaGreatDoor

namespace Go.Proofs.YtpoahegccjgnjaaGreatDoor
open Go.RowKit
set_option linter.unusedVariables false

set_option maxRecDepth 100000 in
set_option maxHeartbeats 400000 in
theorem ris_any (x : V) (w : World) : Calls Tryz.prog 20 #[x.val] w fun e w' => e = .returned (.bool (okC x)) ∧ w.grownBy w' none := by
  have hga := World.grownBy_alloc w (.cells #[.int .i64 x.k, .int .i64 x.n, .string x.s] 31) none
  have hr := right_any x (w.alloc (.cells #[.int .i64 x.k, .int .i64 x.n, .string x.s] 31))
  have hX := (Vb.new w x).c2
  have Hc : Hid (okC x = (okV x && decide (x.s.size ≤ 10))) := rfl
  obtain ⟨R, HR⟩ : ∃ R, Hid (okC x = R) := ⟨_, rfl⟩
  rw [HR.out] at Hc ⊢
  unfold V.val at hr ⊢
  cases hv : okV x with
  | false =>
    rw [hv] at hr
    have e := Hc.out
    rw [hv, Bool.false_and] at e
    subst e
    clear hv
    go_enter Tryz.func20, Tryz.ntmps20
    go_wp2_with (go_at_call 55; refine hr.mono ?_; rintro e w2 ⟨rfl, hg2⟩; have d2 := cell_g hX hg2)
    go_ret
    exact ⟨rfl, grown_up hga hg2⟩
  | true =>
    rw [hv] at hr
    have e := Hc.out
    rw [hv, Bool.true_and] at e
    clear hv
    by_cases hs : x.s.size ≤ 10
    · have hs' : (x.s.size : Int) ≤ 10 := by omega
      rw [decide_eq_true hs] at e
      subst e
      clear hs
      go_enter Tryz.func20, Tryz.ntmps20
      go_wp2_with (go_at_call 55; refine hr.mono ?_; rintro e w2 ⟨rfl, hg2⟩; have d2 := cell_g hX hg2)
      go_ret
      exact ⟨rfl, grown_up hga hg2⟩
    · have hs' : ¬ (x.s.size : Int) ≤ 10 := by omega
      rw [decide_eq_false hs] at e
      subst e
      clear hs
      go_enter Tryz.func20, Tryz.ntmps20
      go_wp2_with (go_at_call 55; refine hr.mono ?_; rintro e w2 ⟨rfl, hg2⟩; have d2 := cell_g hX hg2)
      go_ret
      exact ⟨by show Ending.returned (.bool (decide ((x.s.size : Int) ≤ 10))) = _; rw [decide_eq_false (by omega)], grown_up hga hg2⟩

end Go.Proofs.YtpoahegccjgnjaaGreatDoor

namespace Go.Proofs.YtpoahegccjgnjaaGreatDoor
open Go.RowKit
set_option linter.unusedVariables false

set_option maxRecDepth 100000 in
set_option maxHeartbeats 1000000 in
theorem rright16_any (v rv : Value) (l : List In) (pc : Int) (rg : List V) (w : World) (hT : Ins w v l) (hwf : ∀ x ∈ l, x.wf) (hr : Rw V.cells 3 w rv rg) (hrw : ∀ x ∈ rg, x.wf) :
    Calls Tryz.prog 9 #[v, .agg #[.int .i64 pc, rv]] w fun e w' => e = .returned (.bool (rightF l pc rg)) ∧ w.grownBy w' none := by
  obtain ⟨a', c', rfl, h1, h2, h3⟩ := hT
  have hT : Ins w (.slice a' l.length c') l := ⟨a', c', rfl, h1, h2, h3⟩
  have HT := hide hT
  clear h1 h2 h3 hT
  obtain ⟨a, c, rfl, g1, g2, g3⟩ := hr
  have H3 := hide g3
  clear g1 g2 g3
  obtain ⟨R, HR⟩ : ∃ R, Hid (rightF l pc rg = R) := ⟨_, rfl⟩
  rw [HR.out]
  obtain ⟨c1, H1⟩ : ∃ c1, Hid ((chkI l).1 = c1) := ⟨_, rfl⟩
  obtain ⟨c2, H2⟩ : ∃ c2, Hid ((chkI l).2 = c2) := ⟨_, rfl⟩
  have hga := World.grownBy_alloc w (.cells #[.int .i64 pc, .slice a rg.length c] 25) none
  have hchk := qrcheck_any _ l _ (HT.out.keptN hga) hwf
  rw [H1.out, H2.out] at hchk
  have f0 : (w.alloc (.cells #[.int .i64 pc, .slice a rg.length c] 25)).cell? ⟨w.heap.size, 0, none⟩ = some (.int .i64 pc) := by simp
  have f1 : (w.alloc (.cells #[.int .i64 pc, .slice a rg.length c] 25)).cell? ⟨w.heap.size, 1, none⟩ = some (.slice a rg.length c) := by simp
  by_cases h0 : c1 = 0
  · have t0 : (c1 != 0) = false := by simp [h0]
    by_cases hp : pc < 0
    · have e := HR.out
      rw [rightF_not (fun h => by have := h.2.1; omega)] at e
      subst e
      clear h0
      go_enter Tryz.func9, Tryz.ntmps9
      go_wp2_with (go_at_call 19; refine hchk.mono ?_; rintro e w2 ⟨rfl, hg2⟩; have d0 := cell_g f0 hg2; have d1 := cell_g f1 hg2)
      go_ret
      exact ⟨rfl, grown_up hga hg2⟩
    · by_cases hq : (l.length : Int) ≤ pc
      · have e := HR.out
        rw [rightF_not (fun h => by have := h.2.2.1; omega)] at e
        subst e
        clear h0
        go_enter Tryz.func9, Tryz.ntmps9
        go_wp2_with (go_at_call 19; refine hchk.mono ?_; rintro e w2 ⟨rfl, hg2⟩; have d0 := cell_g f0 hg2; have d1 := cell_g f1 hg2)
        go_ret
        exact ⟨rfl, grown_up hga hg2⟩
      · by_cases h6 : rg.length = 6
        · have HN : Hid ((∀ i, i < 6 → okC (rg.getD i zV) = true) → R = true) := fun h => by
            rw [← HR.out]
            exact rightF_iff.2 ⟨by rw [H1.out]; exact h0, by omega, by omega, h6, all_of_getD (by rw [h6]; exact h)⟩
          have HB : Hid (∀ i, i < 6 → okC (rg.getD i zV) = false → R = false) := fun i hi hb => by
            rw [← HR.out]
            refine rightF_not (fun h => ?_)
            have := List.all_eq_true.1 h.2.2.2.2 _ (getD_in rg i zV (by omega))
            rw [hb] at this
            cases this
          have H3' : Hid (∀ i, i < 6 → ∃ b off, a = some ⟨b, off, none⟩ ∧ b < w.heap.size ∧ ∀ j u, (V.cells (rg.getD i zV))[j]? = some u → w.cell? ⟨b, off + i * 3 + j, none⟩ = some u) := fun i hi => by
            have hl : i < rg.length := by omega
            rw [getD_lt rg i zV hl]
            exact H3.out i hl
          have Hw : Hid (∀ i, i < 6 → (rg.getD i zV).wf) := fun i hi => hrw _ (getD_in rg i zV (by omega))
          rw [h6] at hga hchk f0 f1 ⊢
          have hpl : pc < (l.length : Int) := by omega
          clear h0 h6 HR
          go_enter Tryz.func9, Tryz.ntmps9
          go_wp2_with (go_at_call 19; refine hchk.mono ?_; rintro e w2 ⟨rfl, hg2⟩; have d0 := cell_g f0 hg2; have d1 := cell_g f1 hg2)
          have hgw := grown_up hga hg2
          clear f0 f1 hchk hga
          go_loopw [7] (fun t wr => ∃ j : Nat, j ≤ 6 ∧ t = .int .i64 j ∧ w2.grownBy wr none ∧ Hid (∀ i, i < j → okC (rg.getD i zV) = true)) (fun t _ => 6 - (intOf t).toNat)
          case atStart => exact ⟨0, Nat.zero_le _, rfl, ⟨rfl, rfl, rfl, Nat.le_refl _, fun _ _ _ => rfl⟩, fun j hj => by omega⟩
          case round =>
            obtain ⟨j, hj, rfl, hg, Hj⟩ := hrel
            have hgA := grown_up hgw hg
            have d0r := cell_g d0 hg
            have d1r := cell_g d1 hg
            by_cases hlt : j < 6
            · have hji : (j : Int) < 6 := by omega
              obtain ⟨b, off, rfl, hb, hcb⟩ := H3'.out j hlt
              have hcs : ∀ k u, (V.cells (rg.getD j zV))[k]? = some u → wr.cell? ⟨b, off + j * 3 + k, none⟩ = some u := fun k u hu => (cell_same (hgA.block b hb (by simp)) _).trans (hcb k u hu)
              have e0 : wr.cell? ⟨b, off + j * 3, none⟩ = some (.int .i64 (rg.getD j zV).k) := hcs 0 _ rfl
              have e1 := hcs 1 _ rfl
              have e2 := hcs 2 _ rfl
              have hmay := ris_any (rg.getD j zV) wr
              have HBj := hide (HB.out j hlt)
              have HJ : Hid (okC (rg.getD j zV) = true → ∀ i, i < j + 1 → okC (rg.getD i zV) = true) := fun h i hi => by
                rcases Nat.lt_or_ge i j with h' | h'
                · exact Hj.out i h'
                · obtain rfl : i = j := by omega
                  exact h
              clear hcs hcb
              generalize rg.getD j zV = y at *
              unfold V.val at hmay
              cases hk : okC y with
              | true =>
                rw [hk] at hmay HJ
                clear hk
                go_wp2_with (go_at_call 20; refine hmay.mono ?_; rintro e w3 ⟨rfl, hg3⟩)
                go_roundw
                case rel => exact ⟨j + 1, by omega, by go_num, grown_up hg hg3, HJ.out (by trivial)⟩
                case measure => simp [intOf]; omega
              | false =>
                rw [hk] at hmay
                have e := HBj.out hk
                subst e
                clear hk
                go_wp2_with (go_at_call 20; refine hmay.mono ?_; rintro e w3 ⟨rfl, hg3⟩)
                go_ret
                exact ⟨rfl, grown_up hgA hg3⟩
            · obtain rfl : j = 6 := by omega
              have e := HN.out Hj.out
              subst e
              go_wp2
              go_ret
              exact ⟨rfl, hgA⟩
        · have t6 : ((rg.length : Int) != 6) = true := by simp; omega
          have e := HR.out
          rw [rightF_not (fun h => h6 h.2.2.2.1)] at e
          subst e
          clear h0 h6
          go_enter Tryz.func9, Tryz.ntmps9
          go_wp2_with (go_at_call 19; refine hchk.mono ?_; rintro e w2 ⟨rfl, hg2⟩; have d0 := cell_g f0 hg2; have d1 := cell_g f1 hg2)
          go_ret
          exact ⟨rfl, grown_up hga hg2⟩
  · have t0 : (c1 != 0) = true := by simp [h0]
    have e := HR.out
    rw [rightF_not (fun h => h0 (H1.out.symm.trans h.1))] at e
    subst e
    clear h0
    go_enter Tryz.func9, Tryz.ntmps9
    go_wp2_with (go_at_call 19; refine hchk.mono ?_; rintro e w2 ⟨rfl, hg2⟩; have d0 := cell_g f0 hg2; have d1 := cell_g f1 hg2)
    go_ret
    exact ⟨rfl, grown_up hga hg2⟩

end Go.Proofs.YtpoahegccjgnjaaGreatDoor
