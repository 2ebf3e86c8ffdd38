/- Contracts, over the turned program: machine's deed that tells whether a register is ahead of another one. Conditions: those that each theorem states. -/
import Derived.Test.YtpoahegccjgnjaaGreatDoorHJl
import Derived.Deep.RegionLaw
namespace Go.Proofs.YtpoahegccjgnjaaGreatDoor
open Go.RowKit
set_option linter.unusedVariables false

theorem rg_cap {B : Bd} {g r cap : Nat} {w : World} {tv pv ov kv : Value} {S : Ms} (h : Mb B w g tv S (.slice (some ⟨r, 0, none⟩) 6 cap) pv ov kv) : 6 ≤ cap ∧ cap ≤ maxLen := by
  obtain ⟨a, cap', e, h1, h2, _⟩ := h.rg.rw clV
  have e2 := (Value.slice.inj e).2.1
  have e3 := (Value.slice.inj e).2.2
  omega
theorem cmpL_one (y z : V) : cmpL [y] [z] = cmpV y z := by
  by_cases h : cmpV y z = 0
  · rw [cmpL_cons0 _ _ _ _ h, h]; rfl
  · exact cmpL_cons _ _ _ _ h
theorem tup_reg {B : Bd} {g r cap : Nat} {w : World} {tv pv ov kv : Value} {S : Ms} (h : Mb B w g tv S (.slice (some ⟨r, 0, none⟩) 6 cap) pv ov kv) (h6 : S.rg.length = 6) (i : Nat) (hi : i < 6) : Tup w (.slice (some ⟨r, i * 3, none⟩) 1 (cap - i)) [S.at (i : Int)] := by
  obtain ⟨r0, r1, r2, _⟩ := rg_cells h h6 i hi
  have hc := rg_cap h
  refine ⟨some ⟨r, i * 3, none⟩, cap - i, rfl, by show 1 ≤ _; omega, by omega, fun j hj => ?_⟩
  have : j = 0 := by simp at hj; omega
  subst this
  exact ⟨r, i * 3, rfl, (h.rg.lt r rfl).2, r0, r1, r2⟩
set_option maxRecDepth 100000 in
set_option maxHeartbeats 1000000 in
theorem m_less (B : Bd) (g : Nat) (tv rv pv ov kv : Value) (S : Ms) (x : V) (op : Int) (a b c : Nat) (la : a < 6) (lb : b < 6) (lc : c < 6) (w : World) (hM : Mb B w g tv S rv pv ov kv) (h6 : S.rg.length = 6) :
    Calls Tryz.prog 29 #[.pointer (some ⟨g, 0, none⟩), (⟨op, (a : Int), (b : Int), (c : Int), x⟩ : In).val] w fun e w' => DP B w g tv (.go (S.set (a : Int) (tru (decide (cmpV (S.at (b : Int)) (S.at (c : Int)) < 0))))) e w' := by
  obtain ⟨r, cap, rfl, hBr, hr, hrg⟩ := at_cells hM h6
  have hgb := World.grownBy_alloc w (.cells #[.int .i64 op, .int .i64 (a : Int), .int .i64 (b : Int), .int .i64 (c : Int), .int .i64 x.k, .int .i64 x.n, .string x.s] 44) none
  have hb : Ib (w.alloc (.cells #[.int .i64 op, .int .i64 (a : Int), .int .i64 (b : Int), .int .i64 (c : Int), .int .i64 x.k, .int .i64 x.n, .string x.s] 44)) w.heap.size ⟨op, (a : Int), (b : Int), (c : Int), x⟩ := Ib.new w ⟨op, (a : Int), (b : Int), (c : Int), x⟩
  have hM1 := hM.keptN hgb
  have la' : (a : Int) < 6 := by omega
  have lb' : (b : Int) < 6 := by omega
  have lc' : (c : Int) < 6 := by omega
  obtain ⟨z, HZ⟩ : ∃ z, Hid (cmpV (S.at (b : Int)) (S.at (c : Int)) = z) := ⟨_, rfl⟩
  rw [HZ.out]
  obtain ⟨yes, HY⟩ : ∃ yes, Hid (decide (z < 0) = yes) := ⟨_, rfl⟩
  rw [HY.out]
  unfold In.val
  dsimp only
  go_enter Tryz.func29, Tryz.ntmps29
  go_upto_region 1 with fail
  have HG1 := hide (kp_n (B := B) hgb)
  generalize w.alloc (.cells #[.int .i64 op, .int .i64 (a : Int), .int .i64 (b : Int), .int .i64 (c : Int), .int .i64 x.k, .int .i64 x.n, .string x.s] 44) = W at *
  have hqg : g < w.heap.size := hM.lt
  generalize hq : w.heap.size = q at *
  have hans : ∀ (W0 : World) (_ : W.grownBy W0 none) (yes : Bool), Calls Tryz.prog 62 #[.pointer (some ⟨g, 0, none⟩), .agg #[.int .i64 op, .int .i64 (a : Int), .int .i64 (b : Int), .int .i64 (c : Int), .int .i64 x.k, .int .i64 x.n, .string x.s], .bool yes] W0 fun e w' => DP B W0 g tv (.go (S.set (a : Int) (tru yes))) e w' ∧ ∀ r0, (Value.slice (some ⟨r, 0, none⟩) 6 cap).ownBlock = some r0 → Kp (only r0) W0 w' := fun W0 hg yes => m_answer B g tv _ pv ov kv S x op (b : Int) (c : Int) a la W0 (hM1.keptN hg) h6 yes
  have Hans := hide hans
  clear hans
  obtain ⟨b0, b1, b2, b3, b4, b5, b6⟩ := hb.cs
  dsimp only at b0 b1 b2 b3 b4 b5 b6
  have t2 := hM1.tb.c2
  obtain ⟨br0, br1, br2, rf⟩ := rg_cells hM1 h6 b lb
  obtain ⟨cr0, cr1, cr2, rf⟩ := rg_cells hM1 h6 c lc
  obtain ⟨hc6, hcm⟩ := rg_cap hM1
  unfold maxLen at hcm
  have hcap : (6 : Int) ≤ (cap : Int) := by omega
  have hcap' : (cap : Int) ≤ 9223372036854775807 := by omega
  have lb'' : (b : Int) < (cap : Int) := by omega
  have lc'' : (c : Int) < (cap : Int) := by omega
  have hTb := tup_reg hM1 h6 b lb
  have hTc := tup_reg hM1 h6 c lc
  have HC : Hid (∀ W0, W.grownBy W0 none → Calls Tryz.prog 63 #[.slice (some ⟨r, b * 3, none⟩) 1 (cap - b), .slice (some ⟨r, c * 3, none⟩) 1 (cap - c)] W0 fun e w' => e = .returned (.int .i64 z) ∧ W0.grownBy w' none) := by
    intro W0 hg0
    have h := compare_any _ _ _ _ W0 (hTb.keptN hg0) (hTc.keptN hg0)
    rw [cmpL_one, HZ.out] at h
    exact h
  go_region
  go_upto_region 2 with fail
  have HGd := hide (HG1.out.then (Kp.drew _ W))
  have HM2 := hide (hM1.keptN (grown_dr W))
  have HQ : Hid (∀ W0, W.drew.grownBy W0 none → W.grownBy W0 none) := fun W0 h => grown_up (grown_dr W) h
  have q0 : W.drew.cell? ⟨q, 0, none⟩ = some (.int .i64 op) := b0
  have q1 : W.drew.cell? ⟨q, 1, none⟩ = some (.int .i64 (a : Int)) := b1
  have q2 : W.drew.cell? ⟨q, 2, none⟩ = some (.int .i64 (b : Int)) := b2
  have q3 : W.drew.cell? ⟨q, 3, none⟩ = some (.int .i64 (c : Int)) := b3
  have q4 : W.drew.cell? ⟨q, 4, none⟩ = some (.int .i64 x.k) := b4
  have q5 : W.drew.cell? ⟨q, 5, none⟩ = some (.int .i64 x.n) := b5
  have q6 : W.drew.cell? ⟨q, 6, none⟩ = some (.string x.s) := b6
  clear b0 b1 b2 b3 b4 b5 b6 t2 br0 br1 br2 cr0 cr1 cr2 rf hb hTb hTc hM1 hM
  generalize W.drew = W2 at *
  have nq : ¬ only r q := fun e => by unfold only at e; omega
  have Q0 := fun (w' : World) (h : Kp (only r) W2 w') => h.cell q0 nq
  have Q1 := fun (w' : World) (h : Kp (only r) W2 w') => h.cell q1 nq
  have Q2 := fun (w' : World) (h : Kp (only r) W2 w') => h.cell q2 nq
  have Q3 := fun (w' : World) (h : Kp (only r) W2 w') => h.cell q3 nq
  have Q4 := fun (w' : World) (h : Kp (only r) W2 w') => h.cell q4 nq
  have Q5 := fun (w' : World) (h : Kp (only r) W2 w') => h.cell q5 nq
  have Q6 := fun (w' : World) (h : Kp (only r) W2 w') => h.cell q6 nq
  have dr : Kp (only r) W2 W2.drew := Kp.drew _ _
  by_cases hz : z < 0
  · have hY : yes = true := by rw [← HY.out]; exact decide_eq_true hz
    subst hY
    go_region_held_law (fun w' => Kp (only r) W2 w') (first | assumption | exact dr) (first
      | (go_at_call 63; refine (HC.out _ (HQ.out _ (grown_dr _))).mono ?_; rintro e w3 ⟨rfl, hg3⟩; have S3 : Kp (only r) W2 w3 := dr.then (Kp.ofN hg3 _))
      | (go_at_call 62; refine (Hans.out _ (HQ.out _ (grown_up (grown_dr _) hg3)) _).mono ?_; rintro e w4 ⟨hD, hO⟩; have hO4 := hO r rfl; obtain ⟨bb, rfl, hR, hk⟩ := hD; have S4 := S3.then hO4))
    go_wp2
    go_ret
    try rw [HY.out] at hR
    exact ⟨bb, rfl, hR, ((HGd.out.then (Kp.drew _ _)).then (kp_n hg3)).then hk⟩
  · have hY : yes = false := by rw [← HY.out]; exact decide_eq_false hz
    subst hY
    go_region_held_law (fun w' => Kp (only r) W2 w') (first | assumption | exact dr) (first
      | (go_at_call 63; refine (HC.out _ (HQ.out _ (grown_dr _))).mono ?_; rintro e w3 ⟨rfl, hg3⟩; have S3 : Kp (only r) W2 w3 := dr.then (Kp.ofN hg3 _))
      | (go_at_call 62; refine (Hans.out _ (HQ.out _ (grown_up (grown_dr _) hg3)) _).mono ?_; rintro e w4 ⟨hD, hO⟩; have hO4 := hO r rfl; obtain ⟨bb, rfl, hR, hk⟩ := hD; have S4 := S3.then hO4))
    go_wp2
    go_ret
    try rw [HY.out] at hR
    exact ⟨bb, rfl, hR, ((HGd.out.then (Kp.drew _ _)).then (kp_n hg3)).then hk⟩

end Go.Proofs.YtpoahegccjgnjaaGreatDoor
