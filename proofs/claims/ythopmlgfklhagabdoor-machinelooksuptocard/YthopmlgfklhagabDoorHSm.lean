import Derived.Test.YthopmlgfklhagabDoorHJr
import Derived.Test.YthopmlgfklhagabDoorKRefRead
import Derived.Test.YthopmlgfklhagabDoorHJa
import Derived.Deep.QuietTactic
namespace Go.Proofs.YthopmlgfklhagabDoor
open Go.RowKit
set_option linter.unusedVariables false

theorem same_self (v v' : Value) (l : List V) (w : World) (h : Rw V.cells 3 w v l) (h' : Rw V.cells 3 w v' l) :
    Calls Tryd.prog 18 #[v, v'] w fun e w' => e = .returned (.bool true) ∧ w.grownBy w' none := by
  refine (same_any v v' l l w (rw_tup h) (rw_tup h')).mono ?_
  rintro e w' ⟨⟨b, rfl, hb⟩, hg⟩
  rw [hb.2 rfl]
  exact ⟨rfl, hg⟩
set_option maxRecDepth 100000 in
set_option maxHeartbeats 1000000 in
theorem sameF_self (v v' : Value) (pc : Int) (l : List V) (w : World) (h : Rw V.cells 3 w v l) (h' : Rw V.cells 3 w v' l) :
    Calls Tryd.prog 9 #[.agg #[.int .i64 pc, v], .agg #[.int .i64 pc, v']] w fun e w' => e = .returned (.bool true) ∧ w.grownBy w' none := by
  obtain ⟨a1, c1, rfl, x1, x2, x3⟩ := h
  have h : Rw V.cells 3 w (.slice a1 l.length c1) l := ⟨a1, c1, rfl, x1, x2, x3⟩
  obtain ⟨a2, c2, rfl, y1, y2, y3⟩ := h'
  have h' : Rw V.cells 3 w (.slice a2 l.length c2) l := ⟨a2, c2, rfl, y1, y2, y3⟩
  clear x1 x2 x3 y1 y2 y3
  have hA := World.grownBy_alloc w (.cells #[.int .i64 pc, .slice a1 l.length c1] 35) none
  have hB := World.grownBy_alloc (w.alloc (.cells #[.int .i64 pc, .slice a1 l.length c1] 35)) (.cells #[.int .i64 pc, .slice a2 l.length c2] 35) none
  have hg := grown_up hA hB
  have hs := same_self _ _ l _ (h.keptN hg) (h'.keptN hg)
  go_enter Tryd.func9, Tryd.ntmps9
  go_wp2_with (go_at_call 18; refine hs.mono ?_; rintro e w2 ⟨rfl, hg2⟩)
  go_ret
  exact ⟨rfl, grown_up hg hg2⟩
set_option maxRecDepth 100000 in
set_option maxHeartbeats 2000000 in
theorem same16_self (x y : Value) (E : Ef) (w : World) (hx : EfR w x E) (hy : EfR w y E) :
    Calls Tryd.prog 13 #[x, y] w fun e w' => e = .returned (.bool true) ∧ w.grownBy w' none := by
  obtain ⟨_, _, _, _, rfl, ⟨p1, q1, rfl, a1, a2, a3⟩, ⟨o1, r1, rfl, b1, b2, b3⟩, ⟨k1, s1, rfl, c1, c2, c3⟩, ⟨f1, g1, rfl, d1, d2, d3⟩⟩ := hx
  obtain ⟨_, _, _, _, rfl, ⟨p2, q2, rfl, a4, a5, a6⟩, ⟨o2, r2, rfl, b4, b5, b6⟩, ⟨k2, s2, rfl, c4, c5, c6⟩, ⟨f2, g2, rfl, d4, d5, d6⟩⟩ := hy
  have ho1 : Rw V.cells 3 w (.slice o1 E.ou.length r1) E.ou := ⟨o1, r1, rfl, b1, b2, b3⟩
  have ho2 : Rw V.cells 3 w (.slice o2 E.ou.length r2) E.ou := ⟨o2, r2, rfl, b4, b5, b6⟩
  have hf1 : Rw V.cells 3 w (.slice f1 E.rg.length g1) E.rg := ⟨f1, g1, rfl, d1, d2, d3⟩
  have hf2 : Rw V.cells 3 w (.slice f2 E.rg.length g2) E.rg := ⟨f2, g2, rfl, d4, d5, d6⟩
  have lp : (E.pu.length : Int) ≤ 9223372036854775807 := by unfold maxLen at a2; omega
  have lk : (E.ki.length : Int) ≤ 9223372036854775807 := by unfold maxLen at c2; omega
  have P1 := hide a3
  have P2 := hide a6
  have K1 := hide c3
  have K2 := hide c6
  clear a1 a2 a3 a4 a5 a6 b1 b2 b3 b4 b5 b6 c1 c2 c3 c4 c5 c6 d1 d2 d3 d4 d5 d6
  have hA := World.grownBy_alloc w (.cells #[.slice p1 E.pu.length q1, .slice o1 E.ou.length r1, .slice k1 E.ki.length s1, .int .i64 E.sl, .int .i64 E.en, .int .i64 E.v.k, .int .i64 E.v.n, .string E.v.s, .int .i64 E.pc, .slice f1 E.rg.length g1] 43) none
  have hs1 : (w.alloc (.cells #[.slice p1 E.pu.length q1, .slice o1 E.ou.length r1, .slice k1 E.ki.length s1, .int .i64 E.sl, .int .i64 E.en, .int .i64 E.v.k, .int .i64 E.v.n, .string E.v.s, .int .i64 E.pc, .slice f1 E.rg.length g1] 43)).heap.size = w.heap.size + 1 := World.size_alloc _ _
  have h1 := heap_alloc_new w (.cells #[.slice p1 E.pu.length q1, .slice o1 E.ou.length r1, .slice k1 E.ki.length s1, .int .i64 E.sl, .int .i64 E.en, .int .i64 E.v.k, .int .i64 E.v.n, .string E.v.s, .int .i64 E.pc, .slice f1 E.rg.length g1] 43)
  have hB := World.grownBy_alloc (w.alloc (.cells #[.slice p1 E.pu.length q1, .slice o1 E.ou.length r1, .slice k1 E.ki.length s1, .int .i64 E.sl, .int .i64 E.en, .int .i64 E.v.k, .int .i64 E.v.n, .string E.v.s, .int .i64 E.pc, .slice f1 E.rg.length g1] 43)) (.cells #[.slice p2 E.pu.length q2, .slice o2 E.ou.length r2, .slice k2 E.ki.length s2, .int .i64 E.sl, .int .i64 E.en, .int .i64 E.v.k, .int .i64 E.v.n, .string E.v.s, .int .i64 E.pc, .slice f2 E.rg.length g2] 43) none
  have h2 := heap_alloc_new (w.alloc (.cells #[.slice p1 E.pu.length q1, .slice o1 E.ou.length r1, .slice k1 E.ki.length s1, .int .i64 E.sl, .int .i64 E.en, .int .i64 E.v.k, .int .i64 E.v.n, .string E.v.s, .int .i64 E.pc, .slice f1 E.rg.length g1] 43)) (.cells #[.slice p2 E.pu.length q2, .slice o2 E.ou.length r2, .slice k2 E.ki.length s2, .int .i64 E.sl, .int .i64 E.en, .int .i64 E.v.k, .int .i64 E.v.n, .string E.v.s, .int .i64 E.pc, .slice f2 E.rg.length g2] 43)
  rw [hs1] at h2
  have h1' := (hB.block _ (Array.getElem?_eq_some_iff.1 h1).1 (by simp)).trans h1
  have hg := grown_up hA hB
  have HS := hide (fun W (h : w.grownBy W none) => same_self _ _ E.ou W (ho1.keptN h) (ho2.keptN h))
  have HF := hide (fun W (h : w.grownBy W none) => sameF_self _ _ E.pc E.rg W (hf1.keptN h) (hf2.keptN h))
  have x0 : ((w.alloc (.cells #[.slice p1 E.pu.length q1, .slice o1 E.ou.length r1, .slice k1 E.ki.length s1, .int .i64 E.sl, .int .i64 E.en, .int .i64 E.v.k, .int .i64 E.v.n, .string E.v.s, .int .i64 E.pc, .slice f1 E.rg.length g1] 43)).alloc (.cells #[.slice p2 E.pu.length q2, .slice o2 E.ou.length r2, .slice k2 E.ki.length s2, .int .i64 E.sl, .int .i64 E.en, .int .i64 E.v.k, .int .i64 E.v.n, .string E.v.s, .int .i64 E.pc, .slice f2 E.rg.length g2] 43)).cell? ⟨w.heap.size, 0, none⟩ = some (.slice p1 E.pu.length q1) := by rw [cell_of_row _ _ _ _ _ _ h1']; rfl
  have x2 : ((w.alloc (.cells #[.slice p1 E.pu.length q1, .slice o1 E.ou.length r1, .slice k1 E.ki.length s1, .int .i64 E.sl, .int .i64 E.en, .int .i64 E.v.k, .int .i64 E.v.n, .string E.v.s, .int .i64 E.pc, .slice f1 E.rg.length g1] 43)).alloc (.cells #[.slice p2 E.pu.length q2, .slice o2 E.ou.length r2, .slice k2 E.ki.length s2, .int .i64 E.sl, .int .i64 E.en, .int .i64 E.v.k, .int .i64 E.v.n, .string E.v.s, .int .i64 E.pc, .slice f2 E.rg.length g2] 43)).cell? ⟨w.heap.size, 2, none⟩ = some (.slice k1 E.ki.length s1) := by rw [cell_of_row _ _ _ _ _ _ h1']; rfl
  have y0 : ((w.alloc (.cells #[.slice p1 E.pu.length q1, .slice o1 E.ou.length r1, .slice k1 E.ki.length s1, .int .i64 E.sl, .int .i64 E.en, .int .i64 E.v.k, .int .i64 E.v.n, .string E.v.s, .int .i64 E.pc, .slice f1 E.rg.length g1] 43)).alloc (.cells #[.slice p2 E.pu.length q2, .slice o2 E.ou.length r2, .slice k2 E.ki.length s2, .int .i64 E.sl, .int .i64 E.en, .int .i64 E.v.k, .int .i64 E.v.n, .string E.v.s, .int .i64 E.pc, .slice f2 E.rg.length g2] 43)).cell? ⟨w.heap.size + 1, 0, none⟩ = some (.slice p2 E.pu.length q2) := by rw [cell_of_row _ _ _ _ _ _ h2]; rfl
  have y2 : ((w.alloc (.cells #[.slice p1 E.pu.length q1, .slice o1 E.ou.length r1, .slice k1 E.ki.length s1, .int .i64 E.sl, .int .i64 E.en, .int .i64 E.v.k, .int .i64 E.v.n, .string E.v.s, .int .i64 E.pc, .slice f1 E.rg.length g1] 43)).alloc (.cells #[.slice p2 E.pu.length q2, .slice o2 E.ou.length r2, .slice k2 E.ki.length s2, .int .i64 E.sl, .int .i64 E.en, .int .i64 E.v.k, .int .i64 E.v.n, .string E.v.s, .int .i64 E.pc, .slice f2 E.rg.length g2] 43)).cell? ⟨w.heap.size + 1, 2, none⟩ = some (.slice k2 E.ki.length s2) := by rw [cell_of_row _ _ _ _ _ _ h2]; rfl
  clear hA hB hs1 ho1 ho2 hf1 hf2
  go_enter Tryd.func13, Tryd.ntmps13
  go_upto_region 1 with fail
  have Hg := hide hg
  have gS : ∀ (k : Nat) (u : Value), (#[.slice p1 E.pu.length q1, .slice o1 E.ou.length r1, .slice k1 E.ki.length s1, .int .i64 E.sl, .int .i64 E.en, .int .i64 E.v.k, .int .i64 E.v.n, .string E.v.s, .int .i64 E.pc, .slice f1 E.rg.length g1] : Array Value)[k]? = some u → ((w.alloc (.cells #[.slice p1 E.pu.length q1, .slice o1 E.ou.length r1, .slice k1 E.ki.length s1, .int .i64 E.sl, .int .i64 E.en, .int .i64 E.v.k, .int .i64 E.v.n, .string E.v.s, .int .i64 E.pc, .slice f1 E.rg.length g1] 43)).alloc (.cells #[.slice p2 E.pu.length q2, .slice o2 E.ou.length r2, .slice k2 E.ki.length s2, .int .i64 E.sl, .int .i64 E.en, .int .i64 E.v.k, .int .i64 E.v.n, .string E.v.s, .int .i64 E.pc, .slice f2 E.rg.length g2] 43)).cell? ⟨w.heap.size, k, none⟩ = some u := fun k u hu => by rw [cell_of_row _ _ _ _ _ _ h1']; exact hu
  have gT : ∀ (k : Nat) (u : Value), (#[.slice p2 E.pu.length q2, .slice o2 E.ou.length r2, .slice k2 E.ki.length s2, .int .i64 E.sl, .int .i64 E.en, .int .i64 E.v.k, .int .i64 E.v.n, .string E.v.s, .int .i64 E.pc, .slice f2 E.rg.length g2] : Array Value)[k]? = some u → ((w.alloc (.cells #[.slice p1 E.pu.length q1, .slice o1 E.ou.length r1, .slice k1 E.ki.length s1, .int .i64 E.sl, .int .i64 E.en, .int .i64 E.v.k, .int .i64 E.v.n, .string E.v.s, .int .i64 E.pc, .slice f1 E.rg.length g1] 43)).alloc (.cells #[.slice p2 E.pu.length q2, .slice o2 E.ou.length r2, .slice k2 E.ki.length s2, .int .i64 E.sl, .int .i64 E.en, .int .i64 E.v.k, .int .i64 E.v.n, .string E.v.s, .int .i64 E.pc, .slice f2 E.rg.length g2] 43)).cell? ⟨w.heap.size + 1, k, none⟩ = some u := fun k u hu => by rw [cell_of_row _ _ _ _ _ _ h2]; exact hu
  clear h1 h2 h1'
  generalize (w.alloc (.cells #[.slice p1 E.pu.length q1, .slice o1 E.ou.length r1, .slice k1 E.ki.length s1, .int .i64 E.sl, .int .i64 E.en, .int .i64 E.v.k, .int .i64 E.v.n, .string E.v.s, .int .i64 E.pc, .slice f1 E.rg.length g1] 43)).alloc (.cells #[.slice p2 E.pu.length q2, .slice o2 E.ou.length r2, .slice k2 E.ki.length s2, .int .i64 E.sl, .int .i64 E.en, .int .i64 E.v.k, .int .i64 E.v.n, .string E.v.s, .int .i64 E.pc, .slice f2 E.rg.length g2] 43) = W2 at *
  have za0 := gS 0 (.slice p1 E.pu.length q1) rfl
  have zb0 := gT 0 (.slice p2 E.pu.length q2) rfl
  have za1 := gS 1 (.slice o1 E.ou.length r1) rfl
  have zb1 := gT 1 (.slice o2 E.ou.length r2) rfl
  have za2 := gS 2 (.slice k1 E.ki.length s1) rfl
  have zb2 := gT 2 (.slice k2 E.ki.length s2) rfl
  have za3 := gS 3 (.int .i64 E.sl) rfl
  have zb3 := gT 3 (.int .i64 E.sl) rfl
  have za4 := gS 4 (.int .i64 E.en) rfl
  have zb4 := gT 4 (.int .i64 E.en) rfl
  have za5 := gS 5 (.int .i64 E.v.k) rfl
  have zb5 := gT 5 (.int .i64 E.v.k) rfl
  have za6 := gS 6 (.int .i64 E.v.n) rfl
  have zb6 := gT 6 (.int .i64 E.v.n) rfl
  have za7 := gS 7 (.string E.v.s) rfl
  have zb7 := gT 7 (.string E.v.s) rfl
  have za8 := gS 8 (.int .i64 E.pc) rfl
  have zb8 := gT 8 (.int .i64 E.pc) rfl
  have za9 := gS 9 (.slice f1 E.rg.length g1) rfl
  have zb9 := gT 9 (.slice f2 E.rg.length g2) rfl
  have S0 := fun (w' : World) (h : W2.grownBy w' none) => cell_g za0 h
  have T0 := fun (w' : World) (h : W2.grownBy w' none) => cell_g zb0 h
  have S1 := fun (w' : World) (h : W2.grownBy w' none) => cell_g za1 h
  have T1 := fun (w' : World) (h : W2.grownBy w' none) => cell_g zb1 h
  have S2 := fun (w' : World) (h : W2.grownBy w' none) => cell_g za2 h
  have T2 := fun (w' : World) (h : W2.grownBy w' none) => cell_g zb2 h
  have S3 := fun (w' : World) (h : W2.grownBy w' none) => cell_g za3 h
  have T3 := fun (w' : World) (h : W2.grownBy w' none) => cell_g zb3 h
  have S4 := fun (w' : World) (h : W2.grownBy w' none) => cell_g za4 h
  have T4 := fun (w' : World) (h : W2.grownBy w' none) => cell_g zb4 h
  have S5 := fun (w' : World) (h : W2.grownBy w' none) => cell_g za5 h
  have T5 := fun (w' : World) (h : W2.grownBy w' none) => cell_g zb5 h
  have S6 := fun (w' : World) (h : W2.grownBy w' none) => cell_g za6 h
  have T6 := fun (w' : World) (h : W2.grownBy w' none) => cell_g zb6 h
  have S7 := fun (w' : World) (h : W2.grownBy w' none) => cell_g za7 h
  have T7 := fun (w' : World) (h : W2.grownBy w' none) => cell_g zb7 h
  have S8 := fun (w' : World) (h : W2.grownBy w' none) => cell_g za8 h
  have T8 := fun (w' : World) (h : W2.grownBy w' none) => cell_g zb8 h
  have S9 := fun (w' : World) (h : W2.grownBy w' none) => cell_g za9 h
  have T9 := fun (w' : World) (h : W2.grownBy w' none) => cell_g zb9 h
  go_upto_region 3 with (first
    | (go_at_call 18; refine (HS.out _ Hg.out).mono ?_; rintro e w3 ⟨rfl, hg3⟩; have za3 := S3 _ hg3; have zb3 := T3 _ hg3; have za4 := S4 _ hg3; have zb4 := T4 _ hg3; have za5 := S5 _ hg3; have zb5 := T5 _ hg3; have za6 := S6 _ hg3; have zb6 := T6 _ hg3; have za7 := S7 _ hg3; have zb7 := T7 _ hg3; have za8 := S8 _ hg3; have zb8 := T8 _ hg3; have za9 := S9 _ hg3; have zb9 := T9 _ hg3)
    | (go_at_call 9; refine (HF.out _ (grown_up Hg.out hg3)).mono ?_; rintro e w4 ⟨rfl, hg4⟩))
  have hg2 := grown_up hg3 hg4
  go_wp2_with fail
  go_loopw [5] (fun t wr => ∃ j : Nat, j ≤ E.pu.length ∧ t = .int .i64 (j : Int) ∧ W2.grownBy wr none) (fun t _ => E.pu.length - (intOf t).toNat)
  case atStart => exact ⟨0, Nat.zero_le _, rfl, hg2⟩
  case round =>
    obtain ⟨j, hj, rfl, hgr⟩ := hrel
    have hgw := grown_up Hg.out hgr
    have za0 := S0 _ hgr
    have zb0 := T0 _ hgr
    have za2 := S2 _ hgr
    have zb2 := T2 _ hgr
    by_cases hlt : j < E.pu.length
    · have hji : (j : Int) < (E.pu.length : Int) := by omega
      obtain ⟨b, off, rfl, hb, hcb⟩ := P1.out j hlt
      obtain ⟨b', off', rfl, hb', hcb'⟩ := P2.out j hlt
      have hcs := fun k u hu => cell_g (hcb k u hu) hgw
      have hcs' := fun k u hu => cell_g (hcb' k u hu) hgw
      generalize E.pu[j] = x at *
      have u0 : wr.cell? ⟨b, off + j * 7, none⟩ = some (.int .i64 x.k.k) := hcs 0 _ rfl
      have v0 : wr.cell? ⟨b', off' + j * 7, none⟩ = some (.int .i64 x.k.k) := hcs' 0 _ rfl
      have u1 := hcs 1 _ rfl
      have v1 := hcs' 1 _ rfl
      have u2 := hcs 2 _ rfl
      have v2 := hcs' 2 _ rfl
      have u3 := hcs 3 _ rfl
      have v3 := hcs' 3 _ rfl
      have u4 := hcs 4 _ rfl
      have v4 := hcs' 4 _ rfl
      have u5 := hcs 5 _ rfl
      have v5 := hcs' 5 _ rfl
      have u6 := hcs 6 _ rfl
      have v6 := hcs' 6 _ rfl
      clear hcs hcs' hcb hcb'
      go_upto_region 6 with fail
      go_region
      go_wp2_with fail
      go_roundw
      case rel => exact ⟨j + 1, by omega, by go_num, grown_up hgr (by first | exact grown_dr _ | exact grown_drewN _ _ _)⟩
      case measure => simp [intOf]; omega
    · obtain rfl : j = E.pu.length := by omega
      have hgr1 := hgr
      clear hj hlt
      go_wp2_with fail
      go_loopw [6] (fun t wr => ∃ j : Nat, j ≤ E.ki.length ∧ t = .int .i64 (j : Int) ∧ W2.grownBy wr none) (fun t _ => E.ki.length - (intOf t).toNat)
      case atStart => exact ⟨0, Nat.zero_le _, rfl, hgr1⟩
      case round =>
        obtain ⟨j, hj, rfl, hgr⟩ := hrel
        have hgw := grown_up Hg.out hgr
        have za0 := S0 _ hgr
        have zb0 := T0 _ hgr
        have za2 := S2 _ hgr
        have zb2 := T2 _ hgr
        by_cases hlt : j < E.ki.length
        · have hji : (j : Int) < (E.ki.length : Int) := by omega
          obtain ⟨b, off, rfl, hb, hcb⟩ := K1.out j hlt
          obtain ⟨b', off', rfl, hb', hcb'⟩ := K2.out j hlt
          have hcs := fun k u hu => cell_g (hcb k u hu) hgw
          have hcs' := fun k u hu => cell_g (hcb' k u hu) hgw
          generalize E.ki[j] = x at *
          have u0 : wr.cell? ⟨b, off + j * 7, none⟩ = some (.int .i64 x.p) := hcs 0 _ rfl
          have v0 : wr.cell? ⟨b', off' + j * 7, none⟩ = some (.int .i64 x.p) := hcs' 0 _ rfl
          have u1 := hcs 1 _ rfl
          have v1 := hcs' 1 _ rfl
          have u2 := hcs 2 _ rfl
          have v2 := hcs' 2 _ rfl
          have u3 := hcs 3 _ rfl
          have v3 := hcs' 3 _ rfl
          have u4 := hcs 4 _ rfl
          have v4 := hcs' 4 _ rfl
          have u5 := hcs 5 _ rfl
          have v5 := hcs' 5 _ rfl
          have u6 := hcs 6 _ rfl
          have v6 := hcs' 6 _ rfl
          clear hcs hcs' hcb hcb'
          go_upto_region 11 with fail
          go_region
          go_wp2_with fail
          go_roundw
          case rel => exact ⟨j + 1, by omega, by go_num, grown_up hgr (by first | exact grown_dr _ | exact grown_drewN _ _ _)⟩
          case measure => simp [intOf]; omega
        · obtain rfl : j = E.ki.length := by omega
          go_wp2
          go_ret
          exact ⟨rfl, hgw⟩

end Go.Proofs.YthopmlgfklhagabDoor
