/- Contracts, over the turned program: machine's deeds that hold two registers against one another. Conditions: those that each theorem states. Contracts, over the turned program: machine's deed that tells whether two registers are the same. Conditions: those that each theorem states. -/
import Derived.Test.YtpoahegccjgnjaaGreatDoorHJa
import Derived.Deep.RegionLaw
import Derived.Deep.CutRange
import Derived.Test.YtpoahegccjgnjaaGreatDoorHJo
namespace Go.Proofs.YtpoahegccjgnjaaGreatDoor
open Go.RowKit
set_option linter.unusedVariables false

set_option maxRecDepth 100000 in
set_option maxHeartbeats 1000000 in
theorem m_answer (B : Bd) (g : Nat) (tv rv pv ov kv : Value) (S : Ms) (x : V) (op b c : Int) (a : Nat) (la : a < 6) (w : World) (hM : Mb B w g tv S rv pv ov kv) (h6 : S.rg.length = 6) (yes : Bool) :
    Calls Tryz.prog 62 #[.pointer (some ⟨g, 0, none⟩), (⟨op, (a : Int), b, c, x⟩ : In).val, .bool yes] w fun e w' => DP B w g tv (.go (S.set (a : Int) (tru yes))) e w' ∧ ∀ r0, rv.ownBlock = some r0 → Kp (only r0) w w' := by
  obtain ⟨r, cap, rfl, hBr, hr, hrg⟩ := at_cells hM h6
  have hgb := World.grownBy_alloc w (.cells #[.int .i64 op, .int .i64 (a : Int), .int .i64 b, .int .i64 c, .int .i64 x.k, .int .i64 x.n, .string x.s] 44) none
  have hb : Ib (w.alloc (.cells #[.int .i64 op, .int .i64 (a : Int), .int .i64 b, .int .i64 c, .int .i64 x.k, .int .i64 x.n, .string x.s] 44)) w.heap.size ⟨op, (a : Int), b, c, x⟩ := Ib.new w ⟨op, (a : Int), b, c, x⟩
  have hM1 := hM.keptN hgb
  have la' : (a : Int) < 6 := by omega
  unfold In.val
  dsimp only
  go_enter Tryz.func62, Tryz.ntmps62
  go_upto_region 1 with fail
  have HG1 := hide (kp_n (B := B) hgb)
  generalize w.alloc (.cells #[.int .i64 op, .int .i64 (a : Int), .int .i64 b, .int .i64 c, .int .i64 x.k, .int .i64 x.n, .string x.s] 44) = W at *
  have hqg : g < w.heap.size := hM.lt
  generalize hq : w.heap.size = q at *
  obtain ⟨b0, b1, b2, b3, b4, b5, b6⟩ := hb.cs
  dsimp only at b0 b1 b2 b3 b4 b5 b6
  have t2 := hM1.tb.c2
  obtain ⟨ar0, ar1, ar2, rf⟩ := rg_cells hM1 h6 a la
  have Ht2 := fun (w' : World) (h : W.grownBy w' none) => cell_g t2 h
  have Hb1 := fun (w' : World) (h : W.grownBy w' none) => cell_g b1 h
  have Hb2 := fun (w' : World) (h : W.grownBy w' none) => cell_g b2 h
  have Hb3 := fun (w' : World) (h : W.grownBy w' none) => cell_g b3 h
  have Har0 := fun (w' : World) (h : W.grownBy w' none) => cell_g ar0 h
  have Har1 := fun (w' : World) (h : W.grownBy w' none) => cell_g ar1 h
  have Har2 := fun (w' : World) (h : W.grownBy w' none) => cell_g ar2 h
  have dr := grown_dr W
  have HO1 := hide (Kp.ofN hgb (only r))
  have rf' : ∀ (w' : World) (h : W.grownBy w' none) (j : Nat), w'.frozen? ⟨r, j, none⟩ = false := fun w' h j => (rg_cells (hM1.keptN h) h6 a la).2.2.2 j
  go_cut [14] from 7 to 14 (fun t14 W4 => Mb B W4 g tv (S.set (a : Int) (nV 0)) (.slice (some ⟨r, 0, none⟩) 6 cap) pv ov kv ∧ Ib W4 q ⟨op, (a : Int), b, c, x⟩ ∧ Kp (Bk B) w W4 ∧ Kp (only r) w W4)
  case first =>
    go_region_with (first | (go_at_call 22; refine ((m_num 0).out _).mono ?_; rintro e w3 ⟨rfl, hg3⟩; have S3 : W.grownBy w3 none := by first | exact grown_up dr hg3 | exact hg3))
    all_goals
      have hM3 := hM1.keptN S3
      have hb3 := hb.kept S3 (by simp)
      have hP := set_raw hM3 h6 a la 1 0 ⟨#[]⟩
      have hb4 := hide (hb3.kept hP.2 (by simp; omega))
      have HK4 := hide ((HG1.out.then (kp_n S3)).then (kp_of hP.2 hBr))
      have HO4 := hide ((HO1.out.then (Kp.ofN S3 _)).then (Kp.ofGrown hP.2 (S := only r) (fun k e _ => by cases e; rfl)))
      have hM4 := hide hP.1
      clear hP hM3 hb3
      go_wp2_with fail
      go_meet
      exact ⟨hM4.out, hb4.out, HK4.out, HO4.out⟩
  case rest =>
    obtain ⟨hM4, hb4, hK4, hO4⟩ := hcut
    have HO4 := hide hO4
    clear hO4
    have h64 : (S.set (a : Int) (nV 0)).rg.length = 6 := by show (S.rg.set _ _).length = 6; rw [List.length_set]; exact h6
    clear Hb1 Hb2 Hb3 Ht2 Har0 Har1 Har2 ar0 ar1 ar2 b0 b1 b2 b3 b4 b5 b6 t2 rf rf' dr hM1 hb
    have HK4 := hide hK4
    have HM4 := hide hM4
    clear hK4
    cases yes with
    | false =>
      go_wp2
      go_ret
      exact ⟨DP.go HM4.out HK4.out, fun r0 e => by cases e; exact HO4.out⟩
    | true =>
      go_upto_region 3 with fail
      obtain ⟨b0, b1, b2, b3, b4, b5, b6⟩ := hb4.cs
      dsimp only at b0 b1 b2 b3 b4 b5 b6
      have t2 := hM4.tb.c2
      obtain ⟨ar0, ar1, ar2, rf⟩ := rg_cells hM4 h64 a la
      have Ht2 := fun (w' : World) (h : wc.grownBy w' none) => cell_g t2 h
      have Hb1 := fun (w' : World) (h : wc.grownBy w' none) => cell_g b1 h
      have Har0 := fun (w' : World) (h : wc.grownBy w' none) => cell_g ar0 h
      have Har1 := fun (w' : World) (h : wc.grownBy w' none) => cell_g ar1 h
      have Har2 := fun (w' : World) (h : wc.grownBy w' none) => cell_g ar2 h
      have rf' : ∀ (w' : World) (h : wc.grownBy w' none) (j : Nat), w'.frozen? ⟨r, j, none⟩ = false := fun w' h j => (rg_cells (hM4.keptN h) h64 a la).2.2.2 j
      have dr := grown_dr wc
      have es : (S.set (a : Int) (nV 0)).set (a : Int) (nV 1) = S.set (a : Int) (nV 1) := by unfold Ms.set; simp
      go_region_with (first | (go_at_call 22; refine ((m_num 1).out _).mono ?_; rintro e w3 ⟨rfl, hg3⟩; have S3 : wc.grownBy w3 none := by first | exact grown_up dr hg3 | exact hg3))
      all_goals
        have hM3 := hM4.keptN S3
        have hP := set_raw hM3 h64 a la 1 1 ⟨#[]⟩
        have HK5 := hide ((HK4.out.then (kp_n S3)).then (kp_of hP.2 hBr))
        have HO5 := hide ((HO4.out.then (Kp.ofN S3 _)).then (Kp.ofGrown hP.2 (S := only r) (fun k e _ => by cases e; rfl)))
        have hM5 := hide hP.1
        clear hP hM3
        go_wp2
        go_ret
        have e5 := hM5.out
        rw [show (⟨1, 1, ⟨#[]⟩⟩ : V) = nV 1 from rfl, es] at e5
        exact ⟨DP.go e5 HK5.out, fun r0 e => by cases e; exact HO5.out⟩


end Go.Proofs.YtpoahegccjgnjaaGreatDoor

namespace Go.Proofs.YtpoahegccjgnjaaGreatDoor
open Go.RowKit
set_option linter.unusedVariables false

set_option maxRecDepth 100000 in
set_option maxHeartbeats 1000000 in
theorem m_same (B : Bd) (g : Nat) (tv rv pv ov kv : Value) (S : Ms) (x : V) (op : Int) (a b c : Nat) (la : a < 6) (lb : b < 6) (lc : c < 6) (w : World) (hM : Mb B w g tv S rv pv ov kv) (h6 : S.rg.length = 6) :
    Calls Tryz.prog 30 #[.pointer (some ⟨g, 0, none⟩), (⟨op, (a : Int), (b : Int), (c : Int), x⟩ : In).val] w fun e w' => DP B w g tv (.go (S.set (a : Int) (tru (eqV (S.at (b : Int)) (S.at (c : Int)))))) e w' := by
  obtain ⟨r, cap, rfl, hBr, hr, hrg⟩ := at_cells hM h6
  have hgb := World.grownBy_alloc w (.cells #[.int .i64 op, .int .i64 (a : Int), .int .i64 (b : Int), .int .i64 (c : Int), .int .i64 x.k, .int .i64 x.n, .string x.s] 44) none
  have hb : Ib (w.alloc (.cells #[.int .i64 op, .int .i64 (a : Int), .int .i64 (b : Int), .int .i64 (c : Int), .int .i64 x.k, .int .i64 x.n, .string x.s] 44)) w.heap.size ⟨op, (a : Int), (b : Int), (c : Int), x⟩ := Ib.new w ⟨op, (a : Int), (b : Int), (c : Int), x⟩
  have hM1 := hM.keptN hgb
  have la' : (a : Int) < 6 := by omega
  have lb' : (b : Int) < 6 := by omega
  have lc' : (c : Int) < 6 := by omega
  unfold In.val
  dsimp only
  go_enter Tryz.func30, Tryz.ntmps30
  go_upto_region 1 with fail
  have HG1 := hide (kp_n (B := B) hgb)
  generalize w.alloc (.cells #[.int .i64 op, .int .i64 (a : Int), .int .i64 (b : Int), .int .i64 (c : Int), .int .i64 x.k, .int .i64 x.n, .string x.s] 44) = W at *
  have hqg : g < w.heap.size := hM.lt
  generalize hq : w.heap.size = q at *
  have heq : ∀ W0 : World, (binOp .eql 31 (.agg #[.int .i64 (S.at (b : Int)).k, .int .i64 (S.at (b : Int)).n, .string (S.at (b : Int)).s]) (.agg #[.int .i64 (S.at (c : Int)).k, .int .i64 (S.at (c : Int)).n, .string (S.at (c : Int)).s])).run Tryz.prog W0 = .ok (.bool (eqV (S.at (b : Int)) (S.at (c : Int)))) W0 := fun W0 => run_eqV _ _ _ _ _ _ W0
  have hans : ∀ (W0 : World) (_ : W.grownBy W0 none) (yes : Bool), Calls Tryz.prog 62 #[.pointer (some ⟨g, 0, none⟩), .agg #[.int .i64 op, .int .i64 (a : Int), .int .i64 (b : Int), .int .i64 (c : Int), .int .i64 x.k, .int .i64 x.n, .string x.s], .bool yes] W0 fun e w' => DP B W0 g tv (.go (S.set (a : Int) (tru yes))) e w' ∧ ∀ r0, (Value.slice (some ⟨r, 0, none⟩) 6 cap).ownBlock = some r0 → Kp (only r0) W0 w' := fun W0 hg yes => m_answer B g tv _ pv ov kv S x op (b : Int) (c : Int) a la W0 (hM1.keptN hg) h6 yes
  have Hans := hide hans
  clear hans
  obtain ⟨b0, b1, b2, b3, b4, b5, b6⟩ := hb.cs
  dsimp only at b0 b1 b2 b3 b4 b5 b6
  have t2 := hM1.tb.c2
  obtain ⟨ar0, ar1, ar2, rf⟩ := rg_cells hM1 h6 a la
  obtain ⟨br0, br1, br2, rf⟩ := rg_cells hM1 h6 b lb
  obtain ⟨cr0, cr1, cr2, rf⟩ := rg_cells hM1 h6 c lc
  have ng : ¬ only r g := fun e => hrg e.symm
  have nq : ¬ only r q := fun e => by unfold only at e; omega
  refine wp_region_held_drew (S := fun W0 => Kp (only r) W W0) (by kernel_rfl) (Kp.drew _ _) (fun hHeld => ?_)
  refine take_at (i := 0) (d := 5) (v := ?_) rfl rfl (by kernel_rfl) (by kernel_rfl) (by kernel_rfl) (fun _ _ _ h => h) (Or.inl ⟨by rfl, ?_⟩) (by assumption) ?_
  rotate_left
  · intro W hSW
    try dsimp only at hSW
    have g0 := hSW.cell t2 ng
    have g1 := hSW.cell b0 nq
    have g2 := hSW.cell b1 nq
    have g3 := hSW.cell b2 nq
    have g4 := hSW.cell b3 nq
    have g5 := hSW.cell b4 nq
    have g6 := hSW.cell b5 nq
    have g7 := hSW.cell b6 nq
    go_simp
    try with_reducible rfl
  try simp only [Act.put, List.setIfInBounds_toArray, List.set_cons_zero, List.set_cons_succ]
  refine take_at (i := 1) (d := 6) (v := ?_) rfl rfl (by kernel_rfl) (by kernel_rfl) (by kernel_rfl) (fun _ _ _ h => h) (Or.inl ⟨by rfl, ?_⟩) (by assumption) ?_
  rotate_left
  · intro W hSW
    try dsimp only at hSW
    have g0 := hSW.cell t2 ng
    have g1 := hSW.cell b0 nq
    have g2 := hSW.cell b1 nq
    have g3 := hSW.cell b2 nq
    have g4 := hSW.cell b3 nq
    have g5 := hSW.cell b4 nq
    have g6 := hSW.cell b5 nq
    have g7 := hSW.cell b6 nq
    go_simp
    try with_reducible rfl
  try simp only [Act.put, List.setIfInBounds_toArray, List.set_cons_zero, List.set_cons_succ]
  refine take_at (i := 2) (d := 7) (v := ?_) rfl rfl (by kernel_rfl) (by kernel_rfl) (by kernel_rfl) (fun _ _ _ h => h) (Or.inl ⟨by rfl, ?_⟩) (by assumption) ?_
  rotate_left
  · intro W hSW
    try dsimp only at hSW
    have g0 := hSW.cell t2 ng
    have g1 := hSW.cell b0 nq
    have g2 := hSW.cell b1 nq
    have g3 := hSW.cell b2 nq
    have g4 := hSW.cell b3 nq
    have g5 := hSW.cell b4 nq
    have g6 := hSW.cell b5 nq
    have g7 := hSW.cell b6 nq
    go_simp
    try with_reducible rfl
  try simp only [Act.put, List.setIfInBounds_toArray, List.set_cons_zero, List.set_cons_succ]
  refine take_at (i := 3) (d := 8) (v := ?_) rfl rfl (by kernel_rfl) (by kernel_rfl) (by kernel_rfl) (fun _ _ _ h => h) (Or.inl ⟨by rfl, ?_⟩) (by assumption) ?_
  rotate_left
  · intro W hSW
    try dsimp only at hSW
    have g0 := hSW.cell t2 ng
    have g1 := hSW.cell b0 nq
    have g2 := hSW.cell b1 nq
    have g3 := hSW.cell b2 nq
    have g4 := hSW.cell b3 nq
    have g5 := hSW.cell b4 nq
    have g6 := hSW.cell b5 nq
    have g7 := hSW.cell b6 nq
    go_simp
    try with_reducible rfl
  try simp only [Act.put, List.setIfInBounds_toArray, List.set_cons_zero, List.set_cons_succ]
  refine take_at (i := 4) (d := 9) (v := ?_) rfl rfl (by kernel_rfl) (by kernel_rfl) (by kernel_rfl) (fun _ _ _ h => h) (Or.inl ⟨by rfl, ?_⟩) (by assumption) ?_
  rotate_left
  · intro W hSW
    try dsimp only at hSW
    have g0 := hSW.cell t2 ng
    have g1 := hSW.cell b0 nq
    have g2 := hSW.cell b1 nq
    have g3 := hSW.cell b2 nq
    have g4 := hSW.cell b3 nq
    have g5 := hSW.cell b4 nq
    have g6 := hSW.cell b5 nq
    have g7 := hSW.cell b6 nq
    go_simp
    try with_reducible rfl
  try simp only [Act.put, List.setIfInBounds_toArray, List.set_cons_zero, List.set_cons_succ]
  refine take_at (i := 5) (d := 10) (v := ?_) rfl rfl (by kernel_rfl) (by kernel_rfl) (by kernel_rfl) (fun _ _ _ h => h) (Or.inl ⟨by rfl, ?_⟩) (by assumption) ?_
  rotate_left
  · intro W hSW
    try dsimp only at hSW
    have g0 := hSW.cell t2 ng
    have g1 := hSW.cell b0 nq
    have g2 := hSW.cell b1 nq
    have g3 := hSW.cell b2 nq
    have g4 := hSW.cell b3 nq
    have g5 := hSW.cell b4 nq
    have g6 := hSW.cell b5 nq
    have g7 := hSW.cell b6 nq
    go_simp
    try with_reducible rfl
  try simp only [Act.put, List.setIfInBounds_toArray, List.set_cons_zero, List.set_cons_succ]
  refine take_at (i := 6) (d := 11) (v := ?_) rfl rfl (by kernel_rfl) (by kernel_rfl) (by kernel_rfl) (fun _ _ _ h => h) (Or.inl ⟨by rfl, ?_⟩) (by assumption) ?_
  rotate_left
  · intro W hSW
    try dsimp only at hSW
    have g0 := hSW.cell t2 ng
    have g1 := hSW.cell b0 nq
    have g2 := hSW.cell b1 nq
    have g3 := hSW.cell b2 nq
    have g4 := hSW.cell b3 nq
    have g5 := hSW.cell b4 nq
    have g6 := hSW.cell b5 nq
    have g7 := hSW.cell b6 nq
    go_simp
    try with_reducible rfl
  try simp only [Act.put, List.setIfInBounds_toArray, List.set_cons_zero, List.set_cons_succ]
  refine take_at (i := 7) (d := 12) (v := ?_) rfl rfl (by kernel_rfl) (by kernel_rfl) (by kernel_rfl) (fun _ _ _ h => h) (Or.inl ⟨by rfl, ?_⟩) (by assumption) ?_
  rotate_left
  · intro W hSW
    try dsimp only at hSW
    have g0 := hSW.cell t2 ng
    have g1 := hSW.cell b0 nq
    have g2 := hSW.cell b1 nq
    have g3 := hSW.cell b2 nq
    have g4 := hSW.cell b3 nq
    have g5 := hSW.cell b4 nq
    have g6 := hSW.cell b5 nq
    have g7 := hSW.cell b6 nq
    go_simp
    try with_reducible rfl
  try simp only [Act.put, List.setIfInBounds_toArray, List.set_cons_zero, List.set_cons_succ]
  refine take_at (i := 8) (d := 13) (v := ?_) rfl rfl (by kernel_rfl) (by kernel_rfl) (by kernel_rfl) (fun _ _ _ h => h) (Or.inl ⟨by rfl, ?_⟩) (by assumption) ?_
  rotate_left
  · intro W hSW
    try dsimp only at hSW
    have g0 := hSW.cell t2 ng
    have g1 := hSW.cell b0 nq
    have g2 := hSW.cell b1 nq
    have g3 := hSW.cell b2 nq
    have g4 := hSW.cell b3 nq
    have g5 := hSW.cell b4 nq
    have g6 := hSW.cell b5 nq
    have g7 := hSW.cell b6 nq
    go_simp
    try with_reducible rfl
  try simp only [Act.put, List.setIfInBounds_toArray, List.set_cons_zero, List.set_cons_succ]
  refine take_at (i := 10) (d := 15) (v := ?_) rfl rfl (by kernel_rfl) (by kernel_rfl) (by kernel_rfl) (fun _ _ _ h => h) (Or.inl ⟨by rfl, ?_⟩) (by assumption) ?_
  rotate_left
  · intro W hSW
    try dsimp only at hSW
    have g0 := hSW.cell t2 ng
    have g1 := hSW.cell b0 nq
    have g2 := hSW.cell b1 nq
    have g3 := hSW.cell b2 nq
    have g4 := hSW.cell b3 nq
    have g5 := hSW.cell b4 nq
    have g6 := hSW.cell b5 nq
    have g7 := hSW.cell b6 nq
    go_simp
    try with_reducible rfl
  try simp only [Act.put, List.setIfInBounds_toArray, List.set_cons_zero, List.set_cons_succ]
  refine take_at (i := 11) (d := 16) (v := ?_) rfl rfl (by kernel_rfl) (by kernel_rfl) (by kernel_rfl) (fun _ _ _ h => h) (Or.inl ⟨by rfl, ?_⟩) (by assumption) ?_
  rotate_left
  · intro W hSW
    try dsimp only at hSW
    have g0 := hSW.cell t2 ng
    have g1 := hSW.cell b0 nq
    have g2 := hSW.cell b1 nq
    have g3 := hSW.cell b2 nq
    have g4 := hSW.cell b3 nq
    have g5 := hSW.cell b4 nq
    have g6 := hSW.cell b5 nq
    have g7 := hSW.cell b6 nq
    go_simp
    try with_reducible rfl
  try simp only [Act.put, List.setIfInBounds_toArray, List.set_cons_zero, List.set_cons_succ]
  refine take_at (i := 12) (d := 17) (v := ?_) rfl rfl (by kernel_rfl) (by kernel_rfl) (by kernel_rfl) (fun _ _ _ h => h) (Or.inl ⟨by rfl, ?_⟩) (by assumption) ?_
  rotate_left
  · intro W hSW
    try dsimp only at hSW
    have g0 := hSW.cell t2 ng
    have g1 := hSW.cell b0 nq
    have g2 := hSW.cell b1 nq
    have g3 := hSW.cell b2 nq
    have g4 := hSW.cell b3 nq
    have g5 := hSW.cell b4 nq
    have g6 := hSW.cell b5 nq
    have g7 := hSW.cell b6 nq
    go_simp
    try with_reducible rfl
  try simp only [Act.put, List.setIfInBounds_toArray, List.set_cons_zero, List.set_cons_succ]
  refine take_at (i := 13) (d := 18) (v := ?_) rfl rfl (by kernel_rfl) (by kernel_rfl) (by kernel_rfl) (fun _ _ _ h => h) (Or.inl ⟨by rfl, ?_⟩) (by assumption) ?_
  rotate_left
  · intro W hSW
    try dsimp only at hSW
    have g0 := hSW.cell t2 ng
    have g1 := hSW.cell b0 nq
    have g2 := hSW.cell b1 nq
    have g3 := hSW.cell b2 nq
    have g4 := hSW.cell b3 nq
    have g5 := hSW.cell b4 nq
    have g6 := hSW.cell b5 nq
    have g7 := hSW.cell b6 nq
    go_simp
    try with_reducible rfl
  try simp only [Act.put, List.setIfInBounds_toArray, List.set_cons_zero, List.set_cons_succ]
  refine take_at (i := 14) (d := 19) (v := ?_) rfl rfl (by kernel_rfl) (by kernel_rfl) (by kernel_rfl) (fun _ _ _ h => h) (Or.inl ⟨by rfl, ?_⟩) (by assumption) ?_
  rotate_left
  · intro W hSW
    try dsimp only at hSW
    have g0 := hSW.cell t2 ng
    have g1 := hSW.cell b0 nq
    have g2 := hSW.cell b1 nq
    have g3 := hSW.cell b2 nq
    have g4 := hSW.cell b3 nq
    have g5 := hSW.cell b4 nq
    have g6 := hSW.cell b5 nq
    have g7 := hSW.cell b6 nq
    go_simp
    try with_reducible rfl
  try simp only [Act.put, List.setIfInBounds_toArray, List.set_cons_zero, List.set_cons_succ]
  refine take_at (i := 15) (d := 20) (v := ?_) rfl rfl (by kernel_rfl) (by kernel_rfl) (by kernel_rfl) (fun _ _ _ h => h) (Or.inl ⟨by rfl, ?_⟩) (by assumption) ?_
  rotate_left
  · intro W hSW
    try dsimp only at hSW
    have g0 := hSW.cell t2 ng
    have g1 := hSW.cell b0 nq
    have g2 := hSW.cell b1 nq
    have g3 := hSW.cell b2 nq
    have g4 := hSW.cell b3 nq
    have g5 := hSW.cell b4 nq
    have g6 := hSW.cell b5 nq
    have g7 := hSW.cell b6 nq
    go_simp
    try with_reducible rfl
  try simp only [Act.put, List.setIfInBounds_toArray, List.set_cons_zero, List.set_cons_succ]
  refine take_at (i := 16) (d := 21) (v := ?_) rfl rfl (by kernel_rfl) (by kernel_rfl) (by kernel_rfl) (fun _ _ _ h => h) (Or.inl ⟨by rfl, ?_⟩) (by assumption) ?_
  rotate_left
  · intro W hSW
    try dsimp only at hSW
    have g0 := hSW.cell t2 ng
    have g1 := hSW.cell b0 nq
    have g2 := hSW.cell b1 nq
    have g3 := hSW.cell b2 nq
    have g4 := hSW.cell b3 nq
    have g5 := hSW.cell b4 nq
    have g6 := hSW.cell b5 nq
    have g7 := hSW.cell b6 nq
    go_simp
    try with_reducible rfl
  try simp only [Act.put, List.setIfInBounds_toArray, List.set_cons_zero, List.set_cons_succ]
  refine wpAnyH_ready (rs := [9, 17]) (by kernel_rfl) (by simp) ?_
  refine AllReadyH.cons rfl (fun K hK => ?_) ?_
  · go_simp
    refine hK.out _ _ (Kp.drew _ _) (fun hHeld => ?_)
    clear hK K
    try simp only [Act.put, List.setIfInBounds_toArray, List.set_cons_zero, List.set_cons_succ]
    refine wpAnyH_ready (rs := [17]) (by kernel_rfl) (by simp) ?_
    refine AllReadyH.cons rfl (fun K hK => ?_) ?_
    · go_simp
      refine hK.out _ _ (Kp.drew _ _) (fun hHeld => ?_)
      clear hK K
      try simp only [Act.put, List.setIfInBounds_toArray, List.set_cons_zero, List.set_cons_succ]
      refine take_at (i := 18) (d := 23) (v := ?_) rfl rfl (by kernel_rfl) (by kernel_rfl) (by kernel_rfl) (fun _ _ _ h => h) (Or.inl ⟨by rfl, ?_⟩) (by assumption) ?_
      rotate_left
      · intro W hSW
        try dsimp only at hSW
        go_simp
        try with_reducible rfl
      try simp only [Act.put, List.setIfInBounds_toArray, List.set_cons_zero, List.set_cons_succ]
      refine wpAnyH_ready (rs := [19]) (by kernel_rfl) (by simp) ?_
      refine AllReadyH.cons rfl (fun K hK => ?_) ?_
      · go_simp
        go_wp2_with (go_at_call 62; refine (Hans.out _ (grown_dr W) _).mono ?_; rintro e w4 ⟨hD, hO⟩; have hO4 := hO r rfl; obtain ⟨bb, rfl, hR, hk⟩ := hD)
        refine hK.out _ _ ((Kp.drew _ _).then hO4) (fun hHeld => ?_)
        clear hK K
        try simp only [Act.put, List.setIfInBounds_toArray, List.set_cons_zero, List.set_cons_succ]
        refine take_at (i := 20) (d := 4) (v := ?_) rfl rfl (by kernel_rfl) (by kernel_rfl) (by kernel_rfl) (fun _ _ _ h => h) (Or.inl ⟨by rfl, ?_⟩) (by assumption) ?_
        rotate_left
        · intro W hSW
          try dsimp only at hSW
          go_simp
          try with_reducible rfl
        try simp only [Act.put, List.setIfInBounds_toArray, List.set_cons_zero, List.set_cons_succ]
        refine wpAnyH_done (by kernel_rfl) ?_ _
        go_wp2
        go_ret
        exact ⟨bb, rfl, hR, (HG1.out.then (Kp.drew _ _)).then hk⟩
      exact AllReadyH.nil
    exact AllReadyH.nil
  refine AllReadyH.cons rfl (fun K hK => ?_) ?_
  · go_simp
    refine hK.out _ _ (Kp.drew _ _) (fun hHeld => ?_)
    clear hK K
    try simp only [Act.put, List.setIfInBounds_toArray, List.set_cons_zero, List.set_cons_succ]
    refine wpAnyH_ready (rs := [9]) (by kernel_rfl) (by simp) ?_
    refine AllReadyH.cons rfl (fun K hK => ?_) ?_
    · go_simp
      refine hK.out _ _ (Kp.drew _ _) (fun hHeld => ?_)
      clear hK K
      try simp only [Act.put, List.setIfInBounds_toArray, List.set_cons_zero, List.set_cons_succ]
      refine take_at (i := 18) (d := 23) (v := ?_) rfl rfl (by kernel_rfl) (by kernel_rfl) (by kernel_rfl) (fun _ _ _ h => h) (Or.inl ⟨by rfl, ?_⟩) (by assumption) ?_
      rotate_left
      · intro W hSW
        try dsimp only at hSW
        go_simp
        try with_reducible rfl
      try simp only [Act.put, List.setIfInBounds_toArray, List.set_cons_zero, List.set_cons_succ]
      refine wpAnyH_ready (rs := [19]) (by kernel_rfl) (by simp) ?_
      refine AllReadyH.cons rfl (fun K hK => ?_) ?_
      · go_simp
        go_wp2_with (go_at_call 62; refine (Hans.out _ (grown_dr W) _).mono ?_; rintro e w4 ⟨hD, hO⟩; have hO4 := hO r rfl; obtain ⟨bb, rfl, hR, hk⟩ := hD)
        refine hK.out _ _ ((Kp.drew _ _).then hO4) (fun hHeld => ?_)
        clear hK K
        try simp only [Act.put, List.setIfInBounds_toArray, List.set_cons_zero, List.set_cons_succ]
        refine take_at (i := 20) (d := 4) (v := ?_) rfl rfl (by kernel_rfl) (by kernel_rfl) (by kernel_rfl) (fun _ _ _ h => h) (Or.inl ⟨by rfl, ?_⟩) (by assumption) ?_
        rotate_left
        · intro W hSW
          try dsimp only at hSW
          go_simp
          try with_reducible rfl
        try simp only [Act.put, List.setIfInBounds_toArray, List.set_cons_zero, List.set_cons_succ]
        refine wpAnyH_done (by kernel_rfl) ?_ _
        go_wp2
        go_ret
        exact ⟨bb, rfl, hR, (HG1.out.then (Kp.drew _ _)).then hk⟩
      exact AllReadyH.nil
    exact AllReadyH.nil
  exact AllReadyH.nil

end Go.Proofs.YtpoahegccjgnjaaGreatDoor
