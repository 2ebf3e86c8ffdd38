/- The walk of the law PagerNil. Conditions: those that the theorem states. -/
import Derived.Test.YtgfijbbibafdfaaPRest
import Derived.Test.YtgfijbbibafdfaaPOpenB
namespace Go.Proofs.Ytgfijbbibafdfaa.pagerNil
open Go.RowKit
set_option linter.unusedVariables false

set_option maxRecDepth 100000 in
set_option maxHeartbeats 1600000 in
theorem walk (n : Int) (b : Bt) (B : Nat) (w : World) (hb : b.ok B w) (hB : B ≤ w.heap.size) (hl : b.ps.length ≤ 1048576) : Calls Try.prog 6 #[.int .i64 n, .agg b.cells] w fun e w' => e = .returned (.bool true) ∧ w.grownBy w' none := by
  have hka := Kp.alloc none' w (.cells b.cells 40)
  have hbl : (w.alloc (.cells b.cells 40)).heap[w.heap.size]? = some (.cells b.cells 40 (0, 0)) := heap_alloc_new w _
  obtain ⟨wa, Ha⟩ : ∃ wa, Hid (w.alloc (.cells b.cells 40) = wa) := ⟨_, rfl⟩
  rw [Ha.out] at hka hbl
  obtain ⟨g, HG⟩ : ∃ g, Hid (w.heap.size = g) := ⟨_, rfl⟩
  rw [HG.out] at hbl
  have c0 : wa.cell? ⟨g, 0, none⟩ = some b.pv := by rw [cell_of_row _ _ _ _ _ _ hbl]; rfl
  have c1 : wa.cell? ⟨g, 1, none⟩ = some b.bv := by rw [cell_of_row _ _ _ _ _ _ hbl]; rfl
  have hba := hb.keptN hka
  have hBa : B ≤ wa.heap.size := Nat.le_trans hB hka.size
  obtain ⟨pv, ps, bv, bs⟩ := b
  dsimp only at c0 c1 hl
  clear hbl
  go_enter Try.func6, Try.ntmps6
  go_upto_region 1 with fail
  rw [show (Bt.cells ⟨pv, ps, bv, bs⟩) = #[pv, bv] from rfl] at *
  rw [Ha.out, HG.out]
  go_upto_region 4 with (first
    | (go_at_call 7; refine (plives_any _).mono ?_; rintro e w1 ⟨rfl, hk1⟩)
    | fail)
  have d0 := hk1.cell c0 (fun h => h)
  have d1 := hk1.cell c1 (fun h => h)
  have hch := changes_any ⟨pv, ps, bv, bs⟩ B w1 (hba.keptN hk1) (Nat.le_trans hBa hk1.size) hl
  rw [show (Bt.cells ⟨pv, ps, bv, bs⟩) = #[pv, bv] from rfl] at hch
  obtain ⟨pa, pc, hpv⟩ : ∃ a c, pv = .slice a ps.length c := by obtain ⟨a, c, h, _⟩ := hba.hp; exact ⟨a, c, h⟩
  obtain ⟨va, vc, hbv⟩ : ∃ a c, bv = .slice a bs.length c := by obtain ⟨a, c, h, _⟩ := hba.hb; exact ⟨a, c, h⟩
  subst hpv hbv
  clear c0 c1 hba
  go_upto_region 5 with (first
    | (go_at_call 14; refine hch.mono ?_; rintro e w2 ⟨x, y, rfl, hx, hy, hk2⟩; obtain ⟨xa, xc, rfl⟩ := hx.chs.shape; obtain ⟨ya, yc, rfl⟩ := hy.chs.shape)
    | fail)
  have hxs := hx.chs
  clear hch
  go_wp2_with (first
    | (go_at_call 30; refine (pread_nil _ _).mono ?_; rintro e w' ⟨rfl, rfl⟩)
    | (go_at_call 12; refine (open_nil _ _).mono ?_; rintro e w' ⟨rfl, rfl⟩)
    | (go_at_call 16; refine (commit_nil _ _ _ _ hxs).mono ?_; rintro e w3 ⟨rfl, hk3⟩)
    | (go_at_call 31; refine (psize_nil _).mono ?_; rintro e w' ⟨rfl, rfl⟩)
    | (go_at_call 22; refine (pcommits_nil _).mono ?_; rintro e w' ⟨rfl, rfl⟩)
    | fail)
  go_ret
  exact ⟨rfl, (((hka.then hk1).then hk2).then hk3).grown⟩

end Go.Proofs.Ytgfijbbibafdfaa.pagerNil
