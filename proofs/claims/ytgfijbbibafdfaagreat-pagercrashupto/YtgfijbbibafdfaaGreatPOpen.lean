/- Contracts, over the turned program: pager.Open. Conditions: those that each theorem states. -/
import Derived.Test.YtgfijbbibafdfaaGreatPBack
namespace Go.Proofs.YtgfijbbibafdfaaGreat
open Go.RowKit
set_option linter.unusedVariables false

set_option maxRecDepth 100000 in
set_option maxHeartbeats 400000 in
theorem open_nil (n : Int) (w : World) : Calls Tryz.prog 9 #[.pointer none, .int .i64 n] w fun e w' => e = .returned (.tuple #[.pointer none, .int .i64 1]) ∧ w' = w := by
  go_enter Tryz.func9, Tryz.ntmps9
  go_wp2
  go_ret2
  exact ⟨rfl, rfl⟩
set_option maxRecDepth 100000 in
set_option maxHeartbeats 400000 in
theorem open_bad (p : Dp) (D : Dv) (n : Int) (w : World) (hD : Dev w p D) (h : n < 1 ∨ 160 < n ∨ (D.n : Int) < 126 + 4 * n) :
    Calls Tryz.prog 9 #[.pointer (some ⟨p.d, 0, none⟩), .int .i64 n] w fun e w' => e = .returned (.tuple #[.pointer none, .int .i64 1]) ∧ w' = w := by
  by_cases h1 : n < 1
  · go_enter Tryz.func9, Tryz.ntmps9
    go_wp2
    go_ret2
    exact ⟨rfl, rfl⟩
  · by_cases h2 : 160 < n
    · have h1' : ¬ n < 1 := h1
      go_enter Tryz.func9, Tryz.ntmps9
      go_wp2
      go_ret2
      exact ⟨rfl, rfl⟩
    · have h3 : (D.n : Int) < 126 + 4 * n := by omega
      have HW : Hid (wrap64 (126 + 4 * n) = 126 + 4 * n) := by show _ = _; unfold wrap64; omega
      go_enter Tryz.func9, Tryz.ntmps9
      go_wp2_with (first
        | (go_at_call 23; refine (size_any _ _ _ hD).mono ?_; rintro e w' ⟨rfl, rfl⟩)
        | (go_at_call 8; refine (need_any _ _).mono ?_; rintro e w' ⟨rfl, rfl⟩; rw [HW.out])
        | fail)
      go_ret2
      exact ⟨rfl, rfl⟩
/-- A pager's cells, new. -/
theorem pag_new (w : World) (p : Dp) (D : Dv) (n : Nat) (hD : Dev w p D) : Pag (w.alloc (.cells #[.pointer (some ⟨p.d, 0, none⟩), .int .i64 n, .int .i64 0, .slice none 0 0] 66)) w.heap.size p n 0 (.slice none 0 0) [] := by
  have hb := heap_alloc_new w (.cells #[.pointer (some ⟨p.d, 0, none⟩), .int .i64 (n : Int), .int .i64 0, .slice none 0 0] 66)
  refine ⟨by rw [cell_of_row _ _ _ _ _ _ hb]; rfl, by rw [cell_of_row _ _ _ _ _ _ hb]; rfl, by rw [cell_of_row _ _ _ _ _ _ hb]; rfl, by rw [cell_of_row _ _ _ _ _ _ hb]; rfl, fun j => ?_, Chs.nil _ _, fun h => ?_⟩
  · unfold World.frozen?
    rw [show (w.alloc (.cells #[.pointer (some ⟨p.d, 0, none⟩), .int .i64 (n : Int), .int .i64 0, .slice none 0 0] 66)).heap[(⟨w.heap.size, j, none⟩ : Addr).block]? = _ from hb]
    simp
  · have := hD.lt _ h
    omega
set_option maxRecDepth 100000 in
set_option maxHeartbeats 400000 in
theorem open_any (p : Dp) (D : Dv) (n : Nat) (w : World) (hD : Dev w p D) (h0 : 0 ≤ D.c) (h1 : D.c ≤ 980000) (hn1 : 1 ≤ n) (hn : 126 + 4 * n ≤ D.n) (hn2 : n ≤ 160) :
    Calls Tryz.prog 9 #[.pointer (some ⟨p.d, 0, none⟩), .int .i64 n] w fun e w' => ∃ pv, e = .returned (.tuple #[pv, .int .i64 (D.backE n)]) ∧ Dev w' p (D.back n) ∧ Kp p.mem w w' ∧
      (D.backE n = 0 → ∃ g, pv = .pointer (some ⟨g, 0, none⟩) ∧ Pag w' g p n 0 (.slice none 0 0) [] ∧ w.heap.size ≤ g) ∧ (D.backE n ≠ 0 → pv = .pointer none) := by
  have hi1 : ¬ (n : Int) < 1 := by omega
  have hi2 : ¬ (160 : Int) < (n : Int) := by omega
  have hi3 : ¬ (D.n : Int) < 126 + 4 * (n : Int) := by omega
  have HW : Hid (wrap64 (126 + 4 * (n : Int)) = 126 + 4 * (n : Int)) := by show _ = _; unfold wrap64; omega
  have hPn := pag_new w p D n hD
  have hka := Kp.alloc none' w (.cells #[.pointer (some ⟨p.d, 0, none⟩), .int .i64 (n : Int), .int .i64 0, .slice none 0 0] 66)
  obtain ⟨wa, Ha⟩ : ∃ wa, Hid (w.alloc (.cells #[.pointer (some ⟨p.d, 0, none⟩), .int .i64 (n : Int), .int .i64 0, .slice none 0 0] 66) = wa) := ⟨_, rfl⟩
  rw [Ha.out] at hPn hka
  have hgb := goBack_any w.heap.size n p D 0 _ [] wa hPn (hD.keptN hka) h0 h1 hn hn2
  obtain ⟨F, HF⟩ : ∃ F, Hid (D.back n = F) := ⟨_, rfl⟩
  obtain ⟨E, HE⟩ : ∃ E, Hid (D.backE n = E) := ⟨_, rfl⟩
  rw [HE.out, HF.out] at hgb ⊢
  obtain ⟨gg, HG⟩ : ∃ gg, Hid (w.heap.size = gg) := ⟨_, rfl⟩
  rw [HG.out] at hPn hgb
  by_cases hE : E = 0
  · have hE' : (E != 0) = false := by simp [hE]
    go_enter Tryz.func9, Tryz.ntmps9
    go_upto_region 4 with (first
      | (go_at_call 23; refine (size_any _ _ _ hD).mono ?_; rintro e w' ⟨rfl, rfl⟩)
      | (go_at_call 8; refine (need_any _ _).mono ?_; rintro e w' ⟨rfl, rfl⟩; rw [HW.out])
      | fail)
    rw [Ha.out, HG.out]
    go_wp2_with (go_at_call 24; refine hgb.mono ?_; rintro e w2 ⟨rfl, hD2, hk2⟩)
    go_ret2
    exact ⟨_, by rw [hE]; rfl, hD2, hka.nThen hk2, fun _ => ⟨gg, rfl, hPn.kept hk2, by have := HG.out; omega⟩, fun h => absurd hE h⟩
  · have hE' : (E != 0) = true := by simp [hE]
    go_enter Tryz.func9, Tryz.ntmps9
    go_upto_region 4 with (first
      | (go_at_call 23; refine (size_any _ _ _ hD).mono ?_; rintro e w' ⟨rfl, rfl⟩)
      | (go_at_call 8; refine (need_any _ _).mono ?_; rintro e w' ⟨rfl, rfl⟩; rw [HW.out])
      | fail)
    rw [Ha.out, HG.out]
    go_wp2_with (go_at_call 24; refine hgb.mono ?_; rintro e w2 ⟨rfl, hD2, hk2⟩)
    go_ret2
    exact ⟨_, rfl, hD2, hka.nThen hk2, fun h => absurd h hE, fun _ => rfl⟩

end Go.Proofs.YtgfijbbibafdfaaGreat
