/- Contracts, over the turned program: machine's deeds that turn where a step goes on. Conditions: those that each theorem states. Contract, over the turned program: machine's deed that says how long to sleep. Conditions: those that the theorem states. -/
import Derived.Test.YtpoahegccjgnjaaGreatDoorHJa
namespace Go.Proofs.YtpoahegccjgnjaaGreatDoor
open Go.RowKit
set_option linter.unusedVariables false

set_option maxRecDepth 100000 in
set_option maxHeartbeats 1000000 in
theorem m_jump (B : Bd) (g : Nat) (tv rv pv ov kv : Value) (S : Ms) (x : V) (op a b c : Int) (w : World) (hM : Mb B w g tv S rv pv ov kv) :
    Calls Tryz.prog 31 #[.pointer (some ⟨g, 0, none⟩), (⟨op, a, b, c, x⟩ : In).val] w fun e w' => DP B w g tv (.go (S.to a)) e w' := by
  have hgb := World.grownBy_alloc w (.cells #[.int .i64 op, .int .i64 a, .int .i64 b, .int .i64 c, .int .i64 x.k, .int .i64 x.n, .string x.s] 44) none
  have hM1 := hM.keptN hgb
  have hP := hM1.to a
  have t1 := hM1.tb.c1
  have f1 := hM1.tb.fz 1
  have HP := hide hP.1
  have HK := hide ((kp_n (B := B) hgb).then (kp_of hP.2 hM.gB))
  clear hP
  unfold In.val
  dsimp only
  go_enter Tryz.func31, Tryz.ntmps31
  go_wp2
  go_ret
  exact DP.go HP.out HK.out
set_option maxRecDepth 100000 in
set_option maxHeartbeats 1000000 in
theorem m_unless (B : Bd) (g : Nat) (tv rv pv ov kv : Value) (S : Ms) (x : V) (op a c : Int) (b : Nat) (lb : b < 6) (w : World) (hM : Mb B w g tv S rv pv ov kv) (h6 : S.rg.length = 6) :
    Calls Tryz.prog 32 #[.pointer (some ⟨g, 0, none⟩), (⟨op, a, (b : Int), c, x⟩ : In).val] w fun e w' => DP B w g tv (.go (if eqV (S.at (b : Int)) (nV 0) then S.to a else S)) e w' := by
  obtain ⟨r, cap, rfl, hBr, hr, hrg⟩ := at_cells hM h6
  have hgb := World.grownBy_alloc w (.cells #[.int .i64 op, .int .i64 a, .int .i64 (b : Int), .int .i64 c, .int .i64 x.k, .int .i64 x.n, .string x.s] 44) none
  have hb : Ib (w.alloc (.cells #[.int .i64 op, .int .i64 a, .int .i64 (b : Int), .int .i64 c, .int .i64 x.k, .int .i64 x.n, .string x.s] 44)) w.heap.size ⟨op, a, (b : Int), c, x⟩ := Ib.new w ⟨op, a, (b : Int), c, x⟩
  have hM1 := hM.keptN hgb
  have lb' : (b : Int) < 6 := by omega
  obtain ⟨R, HR⟩ : ∃ R, Hid ((if eqV (S.at (b : Int)) (nV 0) = true then S.to a else S) = R) := ⟨_, rfl⟩
  rw [HR.out]
  unfold In.val
  dsimp only
  go_enter Tryz.func32, Tryz.ntmps32
  go_upto_region 1 with fail
  have HG1 := hide (kp_n (B := B) hgb)
  generalize w.alloc (.cells #[.int .i64 op, .int .i64 a, .int .i64 (b : Int), .int .i64 c, .int .i64 x.k, .int .i64 x.n, .string x.s] 44) = W at *
  have hqg : g < w.heap.size := hM.lt
  generalize hq : w.heap.size = q at *
  obtain ⟨b0, b1, b2, b3, b4, b5, b6⟩ := hb.cs
  dsimp only at b0 b1 b2 b3 b4 b5 b6
  have t2 := hM1.tb.c2
  obtain ⟨br0, br1, br2, rf⟩ := rg_cells hM1 h6 b lb
  have Ht2 := fun (w' : World) (h : W.grownBy w' none) => cell_g t2 h
  have Hb1 := fun (w' : World) (h : W.grownBy w' none) => cell_g b1 h
  have Hb2 := fun (w' : World) (h : W.grownBy w' none) => cell_g b2 h
  have Hb3 := fun (w' : World) (h : W.grownBy w' none) => cell_g b3 h
  have Hbr0 := fun (w' : World) (h : W.grownBy w' none) => cell_g br0 h
  have Hbr1 := fun (w' : World) (h : W.grownBy w' none) => cell_g br1 h
  have Hbr2 := fun (w' : World) (h : W.grownBy w' none) => cell_g br2 h
  have dr := grown_dr W
  have Hnum : Hid (∀ W0, Calls Tryz.prog 22 #[.int .i64 0] W0 fun e w' => e = .returned (.agg #[.int .i64 1, .int .i64 0, .string ⟨#[]⟩]) ∧ W0.grownBy w' none) := fun W0 => m_number 0 W0
  have heq : ∀ W0 : World, (binOp .eql 31 (.agg #[.int .i64 (S.at (b : Int)).k, .int .i64 (S.at (b : Int)).n, .string (S.at (b : Int)).s]) (.agg #[.int .i64 1, .int .i64 0, .string ⟨#[]⟩])).run Tryz.prog W0 = .ok (.bool (eqV (S.at (b : Int)) (nV 0))) W0 := fun W0 => run_eqV _ _ _ _ _ _ W0
  go_region_held_law (fun w' => W.grownBy w' none) (first | assumption | exact dr) (first | (go_at_call 22; refine (Hnum.out _).mono ?_; rintro e w3 ⟨rfl, hg3⟩; have S3 : W.grownBy w3 none := by first | exact grown_up dr hg3 | exact hg3))
  have hM3 := hM1.keptN S3
  have b1' := Hb1 _ S3
  have t1 := hM3.tb.c1
  have f1 := hM3.tb.fz 1
  have hP := hM3.to a
  have HP := hide hP.1
  have HK := hide ((HG1.out.then (kp_n S3)).then (kp_of hP.2 hM.gB))
  have HM3 := hide hM3
  have HK0 := hide (HG1.out.then (kp_n (B := B) S3))
  clear hP hM3 hM1 hM
  cases he : eqV (S.at (b : Int)) (nV 0) with
  | true =>
    go_wp2
    go_ret
    have e := HR.out
    rw [if_pos he] at e
    subst e
    exact DP.go HP.out HK.out
  | false =>
    go_wp2
    go_ret
    have e := HR.out
    rw [if_neg (by rw [he]; simp)] at e
    subst e
    exact DP.go HM3.out HK0.out


end Go.Proofs.YtpoahegccjgnjaaGreatDoor

namespace Go.Proofs.YtpoahegccjgnjaaGreatDoor
open Go.RowKit
set_option linter.unusedVariables false

set_option maxRecDepth 100000 in
set_option maxHeartbeats 1000000 in
theorem m_sleep (B : Bd) (g : Nat) (tv rv pv ov kv : Value) (S : Ms) (x : V) (op b c : Int) (a : Nat) (la : a < 6) (w : World) (hM : Mb B w g tv S rv pv ov kv) (h6 : S.rg.length = 6) :
    Calls Tryz.prog 37 #[.pointer (some ⟨g, 0, none⟩), (⟨op, (a : Int), b, c, x⟩ : In).val] w fun e w' => DP B w g tv (if (S.at (a : Int)).k = 1 ∧ 0 ≤ (S.at (a : Int)).n ∧ (S.at (a : Int)).n ≤ 1000000 then .go ⟨S.pc, S.rg, S.pu, S.ou, S.ki, (S.at (a : Int)).n⟩ else .bad) e w' := by
  obtain ⟨r, cap, rfl, hBr, hr, hrg⟩ := at_cells hM h6
  have hgb := World.grownBy_alloc w (.cells #[.int .i64 op, .int .i64 (a : Int), .int .i64 b, .int .i64 c, .int .i64 x.k, .int .i64 x.n, .string x.s] 44) none
  have hb : Ib (w.alloc (.cells #[.int .i64 op, .int .i64 (a : Int), .int .i64 b, .int .i64 c, .int .i64 x.k, .int .i64 x.n, .string x.s] 44)) w.heap.size ⟨op, (a : Int), b, c, x⟩ := Ib.new w ⟨op, (a : Int), b, c, x⟩
  have hM1 := hM.keptN hgb
  have la' : (a : Int) < 6 := by omega
  obtain ⟨R, HR⟩ : ∃ R, Hid ((if (S.at (a : Int)).k = 1 ∧ 0 ≤ (S.at (a : Int)).n ∧ (S.at (a : Int)).n ≤ 1000000 then Rs.go ⟨S.pc, S.rg, S.pu, S.ou, S.ki, (S.at (a : Int)).n⟩ else Rs.bad) = R) := ⟨_, rfl⟩
  rw [HR.out]
  unfold In.val
  dsimp only
  go_enter Tryz.func37, Tryz.ntmps37
  go_upto_region 1 with fail
  have HG1 := hide (kp_n (B := B) hgb)
  generalize w.alloc (.cells #[.int .i64 op, .int .i64 (a : Int), .int .i64 b, .int .i64 c, .int .i64 x.k, .int .i64 x.n, .string x.s] 44) = W at *
  have hqg : g < w.heap.size := hM.lt
  generalize hq : w.heap.size = q at *
  obtain ⟨b0, b1, b2, b3, b4, b5, b6⟩ := hb.cs
  dsimp only at b0 b1 b2 b3 b4 b5 b6
  have t2 := hM1.tb.c2
  obtain ⟨ar0, ar1, ar2, rf⟩ := rg_cells hM1 h6 a la
  have At2 := fun (o : Obj) => cell_g t2 (World.grownBy_alloc W o none)
  have Ab1 := fun (o : Obj) => cell_g b1 (World.grownBy_alloc W o none)
  have Aar0 := fun (o : Obj) => cell_g ar0 (World.grownBy_alloc W o none)
  have Aar1 := fun (o : Obj) => cell_g ar1 (World.grownBy_alloc W o none)
  have Aar2 := fun (o : Obj) => cell_g ar2 (World.grownBy_alloc W o none)
  go_region
  go_upto_region 2 with fail
  have hga2 := World.grownBy_alloc W (.cells #[.int .i64 (S.at (a : Int)).k, .int .i64 (S.at (a : Int)).n, .string (S.at (a : Int)).s] 31) none
  have hV : Vb (W.alloc (.cells #[.int .i64 (S.at (a : Int)).k, .int .i64 (S.at (a : Int)).n, .string (S.at (a : Int)).s] 31)) W.heap.size (S.at (a : Int)) := Vb.new W _
  have hg3 := grown_up hga2 (grown_dr _)
  have hV3 := hV.kept (grown_dr _) (by simp)
  have hM3 := hM1.keptN hg3
  have HG3 := hide (HG1.out.then (kp_n (B := B) hg3))
  have hgp : g < W.heap.size := hM1.lt
  clear hM1 hM hb b0 b1 b2 b3 b4 b5 b6 t2 ar0 ar1 ar2 rf At2 Ab1 Aar0 Aar1 Aar2 hV hga2 hg3
  generalize (W.alloc (.cells #[.int .i64 (S.at (a : Int)).k, .int .i64 (S.at (a : Int)).n, .string (S.at (a : Int)).s] 31)).drew = W3 at *
  generalize W.heap.size = p at *
  have t6 := hM3.tb.c6
  have f6 := hM3.tb.fz 6
  have v1 := hV3.c1
  have hP := hM3.sl (S.at (a : Int)).n
  have hV4 := hV3.kept hP.2 (by simp; omega)
  have HM4 := hide hP.1
  have HK4 := hide (HG3.out.then (kp_of hP.2 hM3.gB))
  clear hM3 hP hV3
  go_upto_region 3 with fail
  clear t6 f6 v1
  generalize W3.setCell ⟨g, 6, none⟩ (.int .i64 (S.at (a : Int)).n) = W4 at *
  have v0 := hV4.c0
  have v1 := hV4.c1
  clear hV4
  by_cases h1 : (S.at (a : Int)).k = 1
  · have h1' : ((S.at (a : Int)).k == 1) = true := by simp [h1]
    by_cases h2 : 0 ≤ (S.at (a : Int)).n
    · by_cases h3 : (S.at (a : Int)).n ≤ 1000000
      · have e := HR.out
        rw [if_pos ⟨h1, h2, h3⟩] at e
        subst e
        clear h1
        go_wp2
        go_ret
        exact DP.go HM4.out HK4.out
      · have e := HR.out
        rw [if_neg (fun h => h3 h.2.2)] at e
        subst e
        clear h1
        go_wp2
        go_ret
        exact DP.bad HK4.out
    · have e := HR.out
      rw [if_neg (fun h => h2 h.2.1)] at e
      subst e
      clear h1
      go_wp2
      go_ret
      exact DP.bad HK4.out
  · have h1' : ((S.at (a : Int)).k == 1) = false := by simp [h1]
    have e := HR.out
    rw [if_neg (fun h => h1 h.1)] at e
    subst e
    clear h1
    go_wp2
    go_ret
    exact DP.bad HK4.out

end Go.Proofs.YtpoahegccjgnjaaGreatDoor
