/- Whether two values are the same, as an operation of the program tells it. No conditions. Contracts, over the turned program: what machine's deeds that set a register leave, and the plain ones of them. Conditions: those that each theorem states. -/
import Derived.Test.YtpoahegccjgnjaaGreatDoorHDefs
import Derived.Test.YtpoahegccjgnjaaGreatDoorIMay
import Derived.Test.YtpoahegccjgnjaaGreatDoorRefRead
import Derived.Deep.RegionHeldLaw
namespace Go.Proofs.YtpoahegccjgnjaaGreatDoor
open Go.RowKit
set_option linter.unusedVariables false

theorem run_eqV (a b c d : Int) (s t : ByteArray) (w : World) : (binOp .eql 31 (.agg #[.int .i64 a, .int .i64 b, .string s]) (.agg #[.int .i64 c, .int .i64 d, .string t])).run Tryz.prog w = .ok (.bool (eqV ⟨a, b, s⟩ ⟨c, d, t⟩)) w := by
  unfold eqV
  dsimp only
  cases h1 : (a == c) with
  | false => go_simp
  | true =>
    cases h2 : (b == d) with
    | false => go_simp
    | true =>
      cases h3 : (s.toList == t.toList) with
      | false => go_simp
      | true => go_simp

end Go.Proofs.YtpoahegccjgnjaaGreatDoor

namespace Go.Proofs.YtpoahegccjgnjaaGreatDoor
open Go.RowKit
set_option linter.unusedVariables false

theorem at_cells {B : Bd} {g : Nat} {w : World} {tv rv pv ov kv : Value} {S : Ms} (h : Mb B w g tv S rv pv ov kv) (h6 : S.rg.length = 6) : ∃ r cap, rv = .slice (some ⟨r, 0, none⟩) 6 cap ∧ Bk B r ∧ r < w.heap.size ∧ r ≠ g := by
  rcases h.rg.shape with ⟨_, h0⟩ | ⟨r, cap, rfl, h1, h2⟩
  · rw [h0] at h6; cases h6
  · refine ⟨r, cap, ?_, h.rB r rfl, h2, (h.ap.r r rfl).1⟩
    rw [h6]
theorem rg_cells {B : Bd} {g r cap : Nat} {w : World} {tv pv ov kv : Value} {S : Ms} (h : Mb B w g tv S (.slice (some ⟨r, 0, none⟩) 6 cap) pv ov kv) (h6 : S.rg.length = 6) (i : Nat) (hi : i < 6) :
    w.cell? ⟨r, i * 3, none⟩ = some (.int .i64 (S.at (i : Int)).k) ∧ w.cell? ⟨r, i * 3 + 1, none⟩ = some (.int .i64 (S.at (i : Int)).n) ∧ w.cell? ⟨r, i * 3 + 2, none⟩ = some (.string (S.at (i : Int)).s) ∧ ∀ j, w.frozen? ⟨r, j, none⟩ = false := by
  have hl : i < S.rg.length := by omega
  have e : S.at (i : Int) = S.rg[i] := by
    unfold Ms.at
    rw [Int.toNat_natCast]
    exact getD_lt _ _ _ hl
  rw [e]
  have hc := fun j u hu => OwR.cells (r := r) h.rg clV rfl i hl j u hu
  exact ⟨hc 0 _ rfl, hc 1 _ rfl, hc 2 _ rfl, fun j => h.rg.fz h6.symm j⟩

/-- A register is turned at the end of a deed. -/
theorem set_raw {B : Bd} {g r cap : Nat} {W : World} {tv pv ov kv : Value} {S : Ms} (h : Mb B W g tv S (.slice (some ⟨r, 0, none⟩) 6 cap) pv ov kv) (h6 : S.rg.length = 6) (i : Nat) (hi : i < 6) (k n : Int) (s : ByteArray) :
    Mb B (((W.setCell ⟨r, i * 3, none⟩ (.int .i64 k)).setCell ⟨r, i * 3 + 1, none⟩ (.int .i64 n)).setCell ⟨r, i * 3 + 2, none⟩ (.string s)) g tv (S.set (i : Int) ⟨k, n, s⟩) (.slice (some ⟨r, 0, none⟩) 6 cap) pv ov kv ∧
    W.grownBy (((W.setCell ⟨r, i * 3, none⟩ (.int .i64 k)).setCell ⟨r, i * 3 + 1, none⟩ (.int .i64 n)).setCell ⟨r, i * 3 + 2, none⟩ (.string s)) (some r) := by
  rw [← h6] at h
  have h1 := h.set i (by omega) ⟨k, n, s⟩
  rw [h6] at h1
  exact h1
theorem set_done {B : Bd} {g r cap : Nat} {w W : World} {tv pv ov kv : Value} {S : Ms} (h : Mb B W g tv S (.slice (some ⟨r, 0, none⟩) 6 cap) pv ov kv) (hk : Kp (Bk B) w W) (h6 : S.rg.length = 6) (i : Nat) (hi : i < 6) (x : V) :
    DP B w g tv (.go (S.set (i : Int) x)) (.returned (.bool true)) (World.drew (((W.setCell ⟨r, i * 3, none⟩ (.int .i64 x.k)).setCell ⟨r, i * 3 + 1, none⟩ (.int .i64 x.n)).setCell ⟨r, i * 3 + 2, none⟩ (.string x.s))) := by
  have h1 := set_raw h h6 i hi x.k x.n x.s
  exact DP.go (h1.1.keptN (grown_dr _)) ((hk.then (kp_of h1.2 (h.rB r rfl))).then (Kp.drew _ _))

set_option maxRecDepth 100000 in
set_option maxHeartbeats 1000000 in
theorem m_constant (B : Bd) (g : Nat) (tv rv pv ov kv : Value) (S : Ms) (x : V) (op b c : Int) (a : Nat) (la : a < 6) (w : World) (hM : Mb B w g tv S rv pv ov kv) (h6 : S.rg.length = 6) :
    Calls Tryz.prog 23 #[.pointer (some ⟨g, 0, none⟩), (⟨op, (a : Int), b, c, x⟩ : In).val] w fun e w' => DP B w g tv (.go (S.set (a : Int) x)) e w' := by
  obtain ⟨r, cap, rfl, hBr, hr, hrg⟩ := at_cells hM h6
  have hgb := World.grownBy_alloc w (.cells #[.int .i64 op, .int .i64 (a : Int), .int .i64 b, .int .i64 c, .int .i64 x.k, .int .i64 x.n, .string x.s] 44) none
  have hb : Ib (w.alloc (.cells #[.int .i64 op, .int .i64 (a : Int), .int .i64 b, .int .i64 c, .int .i64 x.k, .int .i64 x.n, .string x.s] 44)) w.heap.size ⟨op, (a : Int), b, c, x⟩ := Ib.new w ⟨op, (a : Int), b, c, x⟩
  have hM1 := hM.keptN hgb
  have la' : (a : Int) < 6 := by omega
  unfold In.val
  dsimp only
  go_enter Tryz.func23, Tryz.ntmps23
  go_upto_region 1 with fail
  have HG1 := hide (kp_n (B := B) hgb)
  generalize w.alloc (.cells #[.int .i64 op, .int .i64 (a : Int), .int .i64 b, .int .i64 c, .int .i64 x.k, .int .i64 x.n, .string x.s] 44) = W at *
  have hqg : g < w.heap.size := hM.lt
  generalize hq : w.heap.size = q at *
  obtain ⟨b0, b1, b2, b3, b4, b5, b6⟩ := hb.cs
  dsimp only at b0 b1 b2 b3 b4 b5 b6
  have t2 := hM1.tb.c2
  obtain ⟨ar0, ar1, ar2, rf⟩ := rg_cells hM1 h6 a la
  go_region
  go_wp2
  go_ret
  exact set_done hM1 HG1.out h6 a la _
set_option maxRecDepth 100000 in
set_option maxHeartbeats 1000000 in
theorem m_move (B : Bd) (g : Nat) (tv rv pv ov kv : Value) (S : Ms) (x : V) (op c : Int) (a b : Nat) (la : a < 6) (lb : b < 6) (w : World) (hM : Mb B w g tv S rv pv ov kv) (h6 : S.rg.length = 6) :
    Calls Tryz.prog 24 #[.pointer (some ⟨g, 0, none⟩), (⟨op, (a : Int), (b : Int), c, x⟩ : In).val] w fun e w' => DP B w g tv (.go (S.set (a : Int) (S.at (b : Int)))) e w' := by
  obtain ⟨r, cap, rfl, hBr, hr, hrg⟩ := at_cells hM h6
  have hgb := World.grownBy_alloc w (.cells #[.int .i64 op, .int .i64 (a : Int), .int .i64 (b : Int), .int .i64 c, .int .i64 x.k, .int .i64 x.n, .string x.s] 44) none
  have hb : Ib (w.alloc (.cells #[.int .i64 op, .int .i64 (a : Int), .int .i64 (b : Int), .int .i64 c, .int .i64 x.k, .int .i64 x.n, .string x.s] 44)) w.heap.size ⟨op, (a : Int), (b : Int), c, x⟩ := Ib.new w ⟨op, (a : Int), (b : Int), c, x⟩
  have hM1 := hM.keptN hgb
  have la' : (a : Int) < 6 := by omega
  have lb' : (b : Int) < 6 := by omega
  unfold In.val
  dsimp only
  go_enter Tryz.func24, Tryz.ntmps24
  go_upto_region 1 with fail
  have HG1 := hide (kp_n (B := B) hgb)
  generalize w.alloc (.cells #[.int .i64 op, .int .i64 (a : Int), .int .i64 (b : Int), .int .i64 c, .int .i64 x.k, .int .i64 x.n, .string x.s] 44) = W at *
  have hqg : g < w.heap.size := hM.lt
  generalize hq : w.heap.size = q at *
  obtain ⟨b0, b1, b2, b3, b4, b5, b6⟩ := hb.cs
  dsimp only at b0 b1 b2 b3 b4 b5 b6
  have t2 := hM1.tb.c2
  obtain ⟨ar0, ar1, ar2, rf⟩ := rg_cells hM1 h6 a la
  obtain ⟨br0, br1, br2, rf⟩ := rg_cells hM1 h6 b lb
  go_region
  go_wp2
  go_ret
  exact set_done hM1 HG1.out h6 a la _
set_option maxHeartbeats 400000 in
theorem m_number (n : Int) (w : World) : Calls Tryz.prog 22 #[.int .i64 n] w fun e w' => e = .returned (nV n).val ∧ w.grownBy w' none := by
  have hga := World.grownBy_alloc w (.cells #[.int .i64 1, .int .i64 n, .string ⟨#[]⟩] 31) none
  have hV : Vb (w.alloc (.cells #[.int .i64 1, .int .i64 n, .string ⟨#[]⟩] 31)) w.heap.size (nV n) := Vb.new w (nV n)
  go_enter Tryz.func22, Tryz.ntmps22
  go_wp2
  refine bodyPost_ret (results_v1 rfl _ w.heap.size _ (nV n) rfl hV) rfl ?_
  exact ⟨rfl, hga⟩
theorem m_num (n : Int) : Hid (∀ W0, Calls Tryz.prog 22 #[.int .i64 n] W0 fun e w' => e = .returned (.agg #[.int .i64 1, .int .i64 n, .string ⟨#[]⟩]) ∧ W0.grownBy w' none) := fun W0 => m_number n W0

end Go.Proofs.YtpoahegccjgnjaaGreatDoor
