/- The walk of the law EffectsRecords. Conditions: those that the theorem states. -/
import Derived.Test.YthopmlgfklhagaaELv
import Derived.Test.YthopmlgfklhagaaERw
namespace Go.Proofs.Ythopmlgfklhagaa.effectsRecords
open Go.RowKit
set_option linter.unusedVariables false

set_option maxRecDepth 100000 in
set_option maxHeartbeats 4000000 in
theorem walk (x : Rc9) (a1 : Option Addr) (l1 m1 : Nat) (a2 : Option Addr) (l2 m2 : Nat) (a3 : Option Addr) (l3 m3 : Nat) (sl en : Int) (vv : V) (pc : Int) (rv : Value) (w : World) (hx : x.wf) :
    Calls Try.prog 4 #[x.val, efV a1 l1 m1 a2 l2 m2 a3 l3 m3 sl en vv pc rv] w fun e w' => e = .returned (.bool true) ∧ w.grownBy w' none := by
  have hga := World.grownBy_alloc w (.cells #[.int .i64 x.e, .int .i64 x.v.k, .int .i64 x.v.n, .string x.v.s, .int .i64 x.sl, .int .i64 x.p, .int .i64 x.o, .int .i64 x.k] 33) none
  have hgb := World.grownBy_alloc (w.alloc (.cells #[.int .i64 x.e, .int .i64 x.v.k, .int .i64 x.v.n, .string x.v.s, .int .i64 x.sl, .int .i64 x.p, .int .i64 x.o, .int .i64 x.k] 33)) (.cells #[.slice a1 l1 m1, .slice a2 l2 m2, .slice a3 l3 m3, .int .i64 sl, .int .i64 en, .int .i64 vv.k, .int .i64 vv.n, .string vv.s, .int .i64 pc, rv] 40) none
  have B0 := (Rb.new 33 w x).kept hgb (by simp)
  have E0 : ((w.alloc (.cells #[.int .i64 x.e, .int .i64 x.v.k, .int .i64 x.v.n, .string x.v.s, .int .i64 x.sl, .int .i64 x.p, .int .i64 x.o, .int .i64 x.k] 33)).alloc (.cells #[.slice a1 l1 m1, .slice a2 l2 m2, .slice a3 l3 m3, .int .i64 sl, .int .i64 en, .int .i64 vv.k, .int .i64 vv.n, .string vv.s, .int .i64 pc, rv] 40)).heap[w.heap.size + 1]? = some (.cells #[.slice a1 l1 m1, .slice a2 l2 m2, .slice a3 l3 m3, .int .i64 sl, .int .i64 en, .int .i64 vv.k, .int .i64 vv.n, .string vv.s, .int .i64 pc, rv] 40 (0, 0)) := by have := heap_alloc_new (w.alloc (.cells #[.int .i64 x.e, .int .i64 x.v.k, .int .i64 x.v.n, .string x.v.s, .int .i64 x.sl, .int .i64 x.p, .int .i64 x.o, .int .i64 x.k] 33)) (.cells #[.slice a1 l1 m1, .slice a2 l2 m2, .slice a3 l3 m3, .int .i64 sl, .int .i64 en, .int .i64 vv.k, .int .i64 vv.n, .string vv.s, .int .i64 pc, rv] 40); rw [World.size_alloc] at this; exact this
  have G0 := grown_up hga hgb
  have has := fun W => as_any x W
  have hwr := fun W => ewrite_any x W hx
  have hrw := fun W => rwrite17_any x W hx
  have hof := fun W => eof_any a1 l1 m1 a2 l2 m2 a3 l3 m3 sl en vv pc rv W
  have hro := fun W => rof_any a1 l1 m1 a2 l2 m2 a3 l3 m3 sl en vv pc rv W
  have hsm := fun W => same17_any ⟨en, vv, sl, l1, l2, l3⟩ W
  generalize rB x = T at *
  generalize rE9 x = E at *
  have hTT : (T.toList == T.toList) = true := by simp
  have hEE : (E == E) = true := by simp
  unfold efV
  unfold Rc9.val at has hwr hrw ⊢
  obtain ⟨d0, d1, d2, d3, d4, d5, d6, d7⟩ := B0.cs
  clear hga hgb
  go_enter Try.func4, Try.ntmps4
  go_upto_region 1 with fail
  generalize (w.alloc (.cells #[.int .i64 x.e, .int .i64 x.v.k, .int .i64 x.v.n, .string x.v.s, .int .i64 x.sl, .int .i64 x.p, .int .i64 x.o, .int .i64 x.k] 33)).alloc (.cells #[.slice a1 l1 m1, .slice a2 l2 m2, .slice a3 l3 m3, .int .i64 sl, .int .i64 en, .int .i64 vv.k, .int .i64 vv.n, .string vv.s, .int .i64 pc, rv] 40) = W0 at *
  obtain ⟨q, HQ⟩ : ∃ q, Hid (w.heap.size = q) := ⟨_, rfl⟩
  have hqq := HQ.out
  rw [hqq] at B0 E0 d0 d1 d2 d3 d4 d5 d6 d7
  go_wp2_with (go_at_call 8; refine (lives17_any _).mono ?_; rintro e w1 ⟨rfl, hg1⟩; have B1 := B0.kept hg1 (by simp); obtain ⟨d0, d1, d2, d3, d4, d5, d6, d7⟩ := B1.cs)
  refine (has _).mono ?_
  rintro e w2 ⟨rfl, hg2⟩
  have B2 := B1.kept hg2 (by simp)
  go_wp2_with fail
  refine (hwr _).mono ?_
  rintro e w3 ⟨rfl, hg3⟩
  have B3 := B2.kept hg3 (by simp)
  have G3 := grown_up (grown_up hg1 hg2) hg3
  clear d0 d1 d2 d3 d4 d5 d6 d7 B0 B1 B2 hg1 hg2 hg3
  obtain ⟨d0, d1, d2, d3, d4, d5, d6, d7⟩ := B3.cs
  go_upto_region 5 with (go_at_call 15; refine (hrw _).mono ?_; rintro e w4 ⟨rfl, hg4⟩)
  have G4 := grown_up G3 hg4
  clear d0 d1 d2 d3 d4 d5 d6 d7 B3 G3 hg4
  have hl : q + 1 < W0.heap.size := (Array.getElem?_eq_some_iff.1 E0).1
  have hcs : ∀ W : World, w4.grownBy W none → W.cell? ⟨q + 1, 0, none⟩ = some (.slice a1 l1 m1) ∧ W.cell? ⟨q + 1, 1, none⟩ = some (.slice a2 l2 m2) ∧ W.cell? ⟨q + 1, 2, none⟩ = some (.slice a3 l3 m3) ∧ W.cell? ⟨q + 1, 3, none⟩ = some (.int .i64 sl) ∧ W.cell? ⟨q + 1, 4, none⟩ = some (.int .i64 en) ∧ W.cell? ⟨q + 1, 5, none⟩ = some (.int .i64 vv.k) ∧ W.cell? ⟨q + 1, 6, none⟩ = some (.int .i64 vv.n) ∧ W.cell? ⟨q + 1, 7, none⟩ = some (.string vv.s) ∧ W.cell? ⟨q + 1, 8, none⟩ = some (.int .i64 pc) ∧ W.cell? ⟨q + 1, 9, none⟩ = some (rv) := by
    intro W hW
    have hE : W.heap[q + 1]? = some (.cells #[.slice a1 l1 m1, .slice a2 l2 m2, .slice a3 l3 m3, .int .i64 sl, .int .i64 en, .int .i64 vv.k, .int .i64 vv.n, .string vv.s, .int .i64 pc, rv] 40 (0, 0)) := by rw [(grown_up G4 hW).block (q + 1) hl (by simp)]; exact E0
    refine ⟨?_, ?_, ?_, ?_, ?_, ?_, ?_, ?_, ?_, ?_⟩
    · rw [cell_of_row W (q + 1) 0 _ 40 (0, 0) hE]; rfl
    · rw [cell_of_row W (q + 1) 1 _ 40 (0, 0) hE]; rfl
    · rw [cell_of_row W (q + 1) 2 _ 40 (0, 0) hE]; rfl
    · rw [cell_of_row W (q + 1) 3 _ 40 (0, 0) hE]; rfl
    · rw [cell_of_row W (q + 1) 4 _ 40 (0, 0) hE]; rfl
    · rw [cell_of_row W (q + 1) 5 _ 40 (0, 0) hE]; rfl
    · rw [cell_of_row W (q + 1) 6 _ 40 (0, 0) hE]; rfl
    · rw [cell_of_row W (q + 1) 7 _ 40 (0, 0) hE]; rfl
    · rw [cell_of_row W (q + 1) 8 _ 40 (0, 0) hE]; rfl
    · rw [cell_of_row W (q + 1) 9 _ 40 (0, 0) hE]; rfl
  have dr : w4.grownBy w4.drew none := ⟨rfl, rfl, rfl, Nat.le_refl _, fun _ _ _ => rfl⟩
  have G := grown_up G0 G4
  refine wp_region_class9 (C := fun w' => w4.grownBy w' none) (by kernel_rfl) (by kernel_rfl) dr ?_
  refine wpQuiet_step (fun K hK => ?_)
  go_simp
  refine ⟨_, fun _ _ => rfl, hK _ ?_⟩
  clear hK K
  refine wpQuiet_step (fun K hK => ?_)
  go_simp
  refine ⟨_, fun _ _ => rfl, hK _ ?_⟩
  clear hK K
  refine wpQuiet_step (fun K hK => ?_)
  go_simp
  refine ⟨_, fun _ _ => rfl, hK _ ?_⟩
  clear hK K
  refine wpQuiet_step (fun K hK => ?_)
  go_simp
  refine ⟨_, fun _ _ => rfl, hK _ ?_⟩
  clear hK K
  refine wpQuiet_step (fun K hK => ?_)
  go_simp
  refine ⟨_, fun _ _ => rfl, hK _ ?_⟩
  clear hK K
  refine wpQuiet_step (fun K hK => ?_)
  go_simp
  refine ⟨_, fun _ _ => rfl, hK _ ?_⟩
  clear hK K
  refine wpQuiet_step (fun K hK => ?_)
  go_simp
  refine ⟨_, fun _ _ => rfl, hK _ ?_⟩
  clear hK K
  refine wpQuiet_step (fun K hK => ?_)
  go_simp
  refine ⟨_, fun _ _ => rfl, hK _ ?_⟩
  clear hK K
  refine wpQuiet_step (fun K hK => ?_)
  go_simp
  refine ⟨_, fun _ _ => rfl, hK _ ?_⟩
  clear hK K
  refine wpQuiet_step (fun K hK => ?_)
  go_simp
  refine ⟨efV a1 l1 m1 a2 l2 m2 a3 l3 m3 sl en vv pc rv, fun W hW => ?_, hK _ ?_⟩
  · obtain ⟨g0, g1, g2, g3, g4, g5, g6, g7, g8, g9⟩ := hcs W hW
    go_simp
    rfl
  clear hK K
  refine wpQuiet_step (fun K hK => ?_)
  go_simp
  refine ⟨Rc9.val ⟨en, vv, sl, l1, l2, l3⟩, fun W hW => ?_, hK _ ?_⟩
  · refine (hof W).mono ?_
    rintro e w5 ⟨rfl, hg5⟩
    exact ⟨rfl, grown_up hW hg5⟩
  clear hK K
  refine wpQuiet_step (fun K hK => ?_)
  go_simp
  refine ⟨efV a1 l1 m1 a2 l2 m2 a3 l3 m3 sl en vv pc rv, fun W hW => ?_, hK _ ?_⟩
  · obtain ⟨g0, g1, g2, g3, g4, g5, g6, g7, g8, g9⟩ := hcs W hW
    go_simp
    rfl
  clear hK K
  refine wpQuiet_step (fun K hK => ?_)
  go_simp
  refine ⟨Rc9.val ⟨en, vv, sl, l1, l2, l3⟩, fun W hW => ?_, hK _ ?_⟩
  · refine (hro W).mono ?_
    rintro e w5 ⟨rfl, hg5⟩
    exact ⟨rfl, grown_up hW hg5⟩
  clear hK K
  refine wpQuiet_step (fun K hK => ?_)
  go_simp
  refine ⟨.bool true, fun W hW => ?_, hK _ ?_⟩
  · refine (hsm W).mono ?_
    rintro e w5 ⟨rfl, hg5⟩
    exact ⟨rfl, grown_up hW hg5⟩
  clear hK K
  refine wpQuiet_step (fun K hK => ?_)
  go_simp
  refine ⟨_, fun _ _ => rfl, hK _ ?_⟩
  clear hK K
  refine wpQuiet_step (fun K hK => ?_)
  go_simp
  refine ⟨_, fun _ _ => rfl, hK _ ?_⟩
  clear hK K
  refine wpQuiet_nil ?_
  intro wE hE
  go_wp2
  go_ret
  exact ⟨rfl, grown_up G hE⟩

end Go.Proofs.Ythopmlgfklhagaa.effectsRecords
