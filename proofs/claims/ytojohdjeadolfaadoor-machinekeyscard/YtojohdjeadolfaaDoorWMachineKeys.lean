/- The walk of MachineKeys, over instructions, a frame and entries as they lie in memory, out of what a table's Look tells. Conditions: those that each theorem states. -/
import Derived.Test.YtojohdjeadolfaaDoorHTab
import Derived.Test.YtojohdjeadolfaaDoorHLv
import Derived.Test.YtojohdjeadolfaaDoorHLk
namespace Go.Proofs.YtojohdjeadolfaaDoor
open Go.RowKit
set_option linter.unusedVariables false

theorem runE_noload (T T' : V → Option V) (l : List In) (pc : Int) (rg : List V) (h : ∀ x ∈ l, x.op ≠ 11) : runE T l pc rg = runE T' l pc rg := by
  unfold runE
  rw [run_noload T T' l h]
set_option maxRecDepth 100000 in
set_option maxHeartbeats 4000000 in
theorem walk0 (hL : TabLook) (v rv tv : Value) (l : List In) (pc : Int) (rg : List V) (t : List Wr) (W : World) (hI : Ins W v l) (hwf : ∀ x ∈ l, x.wf) (hr : Rw V.cells 3 W rv rg) (hrw : ∀ x ∈ rg, x.wf) (ht : Rw Wr.cells 7 W tv t) (htw : ∀ x ∈ t, x.v.wf) (hG : Glob W) :
    Calls Tryd.prog 4 #[v, .agg #[.int .i64 pc, rv], tv] W fun e w' => e = .returned (.bool true) ∧ W.grownBy w' none := by
  obtain ⟨b0, d0, rfl, h1, h2, h3⟩ := hI
  have hI : Ins W (.slice b0 l.length d0) l := ⟨b0, d0, rfl, h1, h2, h3⟩
  have hlm : (l.length : Int) ≤ 9223372036854775807 := by unfold maxLen at h2; omega
  have HI := hide hI
  have H3 := hide h3
  clear h1 h2 h3 hI
  have HR := hide hr
  obtain ⟨a0, c0, rfl, _⟩ := hr
  have HT := hide ht
  obtain ⟨s0, u0, rfl, _⟩ := ht
  have hga := World.grownBy_alloc W (.cells #[.int .i64 pc, .slice a0 rg.length c0] 35) none
  have f0 : (W.alloc (.cells #[.int .i64 pc, .slice a0 rg.length c0] 35)).cell? ⟨W.heap.size, 0, none⟩ = some (.int .i64 pc) := by simp
  have f1 : (W.alloc (.cells #[.int .i64 pc, .slice a0 rg.length c0] 35)).cell? ⟨W.heap.size, 1, none⟩ = some (.slice a0 rg.length c0) := by simp
  have hl := mlives_any (W.alloc (.cells #[.int .i64 pc, .slice a0 rg.length c0] 35)) (hG.keptN hga)
  go_enter Tryd.func4, Tryd.ntmps4
  go_upto_region 3 with (go_at_call 7; refine hl.mono ?_; rintro e w1 ⟨rfl, hg1⟩)
  have f0 := cell_g f0 hg1
  have f1 := cell_g f1 hg1
  have hgw := grown_up hga hg1
  clear hl hga hg1
  go_wp2_with fail
  go_loopw [7] (fun i wr => ∃ j : Nat, j ≤ l.length ∧ i = .int .i64 (j : Int) ∧ w1.grownBy wr none ∧ Hid (∀ i, i < j → (l.getD i dI).op ≠ 11)) (fun i _ => l.length - (intOf i).toNat)
  case atStart => exact ⟨0, Nat.zero_le _, rfl, World.grownBy.refl _ _, fun i hi => by omega⟩
  case round =>
    obtain ⟨j, hj, rfl, hg, Hj⟩ := hrel
    have hgr := grown_up hgw hg
    by_cases hlt : j < l.length
    · have hji : (j : Int) < (l.length : Int) := by omega
      obtain ⟨b, off, rfl, hb, hcb⟩ := H3.out j hlt
      have i0 : wr.cell? ⟨b, off + j * 7, none⟩ = some (.int .i64 (l[j]).op) := cell_g (hcb 0 _ rfl) hgr
      have Hl : Hid (l.getD j dI = l[j]) := getD_lt l j dI hlt
      clear hcb
      by_cases h11 : (l[j]).op = 11
      · have t11 : ((l[j]).op == 11) = true := by simp [h11]
        clear h11
        go_wp2_with fail
        go_ret
        exact ⟨rfl, hgr⟩
      · have t11 : ((l[j]).op == 11) = false := by simp [h11]
        have HJ : Hid (∀ i, i < j + 1 → (l.getD i dI).op ≠ 11) := fun i hi => by
          rcases Nat.lt_or_ge i j with h | h
          · exact Hj.out i h
          · obtain rfl : i = j := by omega
            rw [Hl.out]
            exact h11
        clear h11
        go_wp2_with fail
        go_roundw
        case rel => exact ⟨j + 1, by omega, by go_num, hg, HJ⟩
        case measure => simp [intOf]; omega
    · obtain rfl : j = l.length := by omega
      have HNL : Hid (∀ x ∈ l, x.op ≠ 11) := fun x hx => by
        obtain ⟨i, hi, rfl⟩ := List.mem_iff_getElem.1 hx
        have := Hj.out i hi
        rw [getD_lt l i dI hi] at this
        exact this
      obtain ⟨E, HE⟩ : ∃ E, Hid (runE (lookT t) l pc rg = E) := ⟨_, rfl⟩
      have HE2 : Hid (runE (fun _ => none) l pc rg = E) := (runE_noload _ _ l pc rg HNL.out).trans HE.out
      obtain ⟨X, HX⟩ : ∃ X, Hid (runX l pc rg = X) := ⟨_, rfl⟩
      have HA : Hid (∀ W9, W.grownBy W9 none → Calls Tryd.prog 14 #[.slice b0 l.length d0, .agg #[.int .i64 pc, .slice a0 rg.length c0], .iface 28 (.slice s0 t.length u0)] W9 fun e w' => RunS e w' E X ∧ W9.grownBy w' none) := fun W9 h => by
        have := run_tab hL _ _ _ l pc rg t W9 (HI.out.keptN h) hwf (hG.keptN h) (HR.out.keptN h) hrw (HT.out.keptN h) htw
        rw [HE.out, HX.out] at this
        exact this
      have HB : Hid (∀ W9, W.grownBy W9 none → Calls Tryd.prog 14 #[.slice b0 l.length d0, .agg #[.int .i64 pc, .slice a0 rg.length c0], .nilIface] W9 fun e w' => RunS e w' E X ∧ W9.grownBy w' none) := fun W9 h => by
        have := run_nil _ _ l pc rg W9 (HI.out.keptN h) hwf (hG.keptN h) (HR.out.keptN h) hrw
        rw [HE2.out, HX.out] at this
        exact this
      have f0 := cell_g f0 hg
      have f1 := cell_g f1 hg
      go_upto_region 9 with (go_at_call 14; refine (HA.out _ hgr).mono ?_; rintro e w5 ⟨⟨a1, m1, c1, e1, n1, d1, r1, o1, t1, h1, p1, q1, rfl, hE1⟩, hg5⟩)
      have hA6 := World.grownBy_alloc w5 (.cells #[.slice a1 m1 c1, .slice e1 n1 d1, .slice r1 o1 t1, .int .i64 E.sl, .int .i64 E.en, .int .i64 E.v.k, .int .i64 E.v.n, .string E.v.s, .int .i64 E.pc, .slice h1 p1 q1] 43) none
      have hB6 := heap_alloc_new w5 (.cells #[.slice a1 m1 c1, .slice e1 n1 d1, .slice r1 o1 t1, .int .i64 E.sl, .int .i64 E.en, .int .i64 E.v.k, .int .i64 E.v.n, .string E.v.s, .int .i64 E.pc, .slice h1 p1 q1] 43)
      have hE6 := hE1.keptN hA6
      have hg6 := grown_up hgr (grown_up hg5 hA6)
      have f0 := cell_g f0 (grown_up hg5 hA6)
      have f1 := cell_g f1 (grown_up hg5 hA6)
      have xc : ∀ (k : Nat) (u : Value), (#[.slice a1 m1 c1, .slice e1 n1 d1, .slice r1 o1 t1, .int .i64 E.sl, .int .i64 E.en, .int .i64 E.v.k, .int .i64 E.v.n, .string E.v.s, .int .i64 E.pc, .slice h1 p1 q1] : Array Value)[k]? = some u → (w5.alloc (.cells #[.slice a1 m1 c1, .slice e1 n1 d1, .slice r1 o1 t1, .int .i64 E.sl, .int .i64 E.en, .int .i64 E.v.k, .int .i64 E.v.n, .string E.v.s, .int .i64 E.pc, .slice h1 p1 q1] 43)).cell? ⟨w5.heap.size, k, none⟩ = some u := fun k u hu => by rw [cell_of_row _ _ _ _ _ _ hB6]; exact hu
      clear hE1 hA6 hB6 hg5
      generalize w5.alloc (.cells #[.slice a1 m1 c1, .slice e1 n1 d1, .slice r1 o1 t1, .int .i64 E.sl, .int .i64 E.en, .int .i64 E.v.k, .int .i64 E.v.n, .string E.v.s, .int .i64 E.pc, .slice h1 p1 q1] 43) = W6 at *
      obtain ⟨ea, hea⟩ : ∃ ea, w5.heap.size = ea := ⟨_, rfl⟩
      rw [hea] at xc ⊢
      go_upto_region 10 with (go_at_call 14; refine (HB.out _ hg6).mono ?_; rintro e w7 ⟨⟨a2, m2, c2, e2, n2, d2, r2, o2, t2, h2, p2, q2, rfl, hE2⟩, hg7⟩)
      have hA8 := World.grownBy_alloc w7 (.cells #[.slice a2 m2 c2, .slice e2 n2 d2, .slice r2 o2 t2, .int .i64 E.sl, .int .i64 E.en, .int .i64 E.v.k, .int .i64 E.v.n, .string E.v.s, .int .i64 E.pc, .slice h2 p2 q2] 43) none
      have hB8 := heap_alloc_new w7 (.cells #[.slice a2 m2 c2, .slice e2 n2 d2, .slice r2 o2 t2, .int .i64 E.sl, .int .i64 E.en, .int .i64 E.v.k, .int .i64 E.v.n, .string E.v.s, .int .i64 E.pc, .slice h2 p2 q2] 43)
      have hE8 := hE2.keptN hA8
      have hg68 := grown_up hg7 hA8
      have hE9 := hE6.keptN hg68
      have hg8 := grown_up hg6 hg68
      have yc : ∀ (k : Nat) (u : Value), (#[.slice a2 m2 c2, .slice e2 n2 d2, .slice r2 o2 t2, .int .i64 E.sl, .int .i64 E.en, .int .i64 E.v.k, .int .i64 E.v.n, .string E.v.s, .int .i64 E.pc, .slice h2 p2 q2] : Array Value)[k]? = some u → (w7.alloc (.cells #[.slice a2 m2 c2, .slice e2 n2 d2, .slice r2 o2 t2, .int .i64 E.sl, .int .i64 E.en, .int .i64 E.v.k, .int .i64 E.v.n, .string E.v.s, .int .i64 E.pc, .slice h2 p2 q2] 43)).cell? ⟨w7.heap.size, k, none⟩ = some u := fun k u hu => by rw [cell_of_row _ _ _ _ _ _ hB8]; exact hu
      have xd := fun k u hu => cell_g (xc k u hu) hg68
      clear hE2 hA8 hB8 hg7 hE6 xc
      generalize w7.alloc (.cells #[.slice a2 m2 c2, .slice e2 n2 d2, .slice r2 o2 t2, .int .i64 E.sl, .int .i64 E.en, .int .i64 E.v.k, .int .i64 E.v.n, .string E.v.s, .int .i64 E.pc, .slice h2 p2 q2] 43) = W8 at *
      obtain ⟨eb, heb⟩ : ∃ eb, w7.heap.size = eb := ⟨_, rfl⟩
      rw [heb] at yc ⊢
      have HS := hide (same16_self _ _ E W8 hE9 hE8)
      have x0 : W8.cell? ⟨ea, 0, none⟩ = some (.slice a1 m1 c1) := xd 0 _ rfl
      have y0 : W8.cell? ⟨eb, 0, none⟩ = some (.slice a2 m2 c2) := yc 0 _ rfl
      have x1 : W8.cell? ⟨ea, 1, none⟩ = some (.slice e1 n1 d1) := xd 1 _ rfl
      have y1 : W8.cell? ⟨eb, 1, none⟩ = some (.slice e2 n2 d2) := yc 1 _ rfl
      have x2 : W8.cell? ⟨ea, 2, none⟩ = some (.slice r1 o1 t1) := xd 2 _ rfl
      have y2 : W8.cell? ⟨eb, 2, none⟩ = some (.slice r2 o2 t2) := yc 2 _ rfl
      have x3 : W8.cell? ⟨ea, 3, none⟩ = some (.int .i64 E.sl) := xd 3 _ rfl
      have y3 : W8.cell? ⟨eb, 3, none⟩ = some (.int .i64 E.sl) := yc 3 _ rfl
      have x4 : W8.cell? ⟨ea, 4, none⟩ = some (.int .i64 E.en) := xd 4 _ rfl
      have y4 : W8.cell? ⟨eb, 4, none⟩ = some (.int .i64 E.en) := yc 4 _ rfl
      have x5 : W8.cell? ⟨ea, 5, none⟩ = some (.int .i64 E.v.k) := xd 5 _ rfl
      have y5 : W8.cell? ⟨eb, 5, none⟩ = some (.int .i64 E.v.k) := yc 5 _ rfl
      have x6 : W8.cell? ⟨ea, 6, none⟩ = some (.int .i64 E.v.n) := xd 6 _ rfl
      have y6 : W8.cell? ⟨eb, 6, none⟩ = some (.int .i64 E.v.n) := yc 6 _ rfl
      have x7 : W8.cell? ⟨ea, 7, none⟩ = some (.string E.v.s) := xd 7 _ rfl
      have y7 : W8.cell? ⟨eb, 7, none⟩ = some (.string E.v.s) := yc 7 _ rfl
      have x8 : W8.cell? ⟨ea, 8, none⟩ = some (.int .i64 E.pc) := xd 8 _ rfl
      have y8 : W8.cell? ⟨eb, 8, none⟩ = some (.int .i64 E.pc) := yc 8 _ rfl
      have x9 : W8.cell? ⟨ea, 9, none⟩ = some (.slice h1 p1 q1) := xd 9 _ rfl
      have y9 : W8.cell? ⟨eb, 9, none⟩ = some (.slice h2 p2 q2) := yc 9 _ rfl
      clear xd yc hE9 hE8
      go_wp2_with (go_at_call 15; refine HS.out.mono ?_; rintro e w9 ⟨rfl, hg9⟩)
      go_ret
      exact ⟨rfl, grown_up hg8 hg9⟩
theorem walk (v rv tv : Value) (l : List In) (pc : Int) (rg : List V) (t : List Wr) (W : World) (hI : Ins W v l) (hwf : ∀ x ∈ l, x.wf) (hr : Rw V.cells 3 W rv rg) (hrw : ∀ x ∈ rg, x.wf) (ht : Rw Wr.cells 7 W tv t) (htw : ∀ x ∈ t, x.v.wf) (hG : Glob W) :
    Calls Tryd.prog 4 #[v, .agg #[.int .i64 pc, rv], tv] W fun e w' => e = .returned (.bool true) ∧ W.grownBy w' none := walk0 look_any v rv tv l pc rg t W hI hwf hr hrw ht htw hG

end Go.Proofs.YtojohdjeadolfaaDoor
