/- Contracts, over the turned program: where a step named a key first. Conditions: those that each theorem states. Contracts, over the turned program: whether two registers are of a kind. Conditions: those that each theorem states. -/
import Derived.Test.YtpoahegccjgnjaaGreatDoorHJa
import Derived.Shelf.Abstract
import Derived.Deep.QuietTactic
namespace Go.Proofs.YtpoahegccjgnjaaGreatDoor
open Go.RowKit
set_option linter.unusedVariables false

/-- The place, or -1. -/
def idI : Option Nat → Int
  | some n => (n : Int)
  | none => -1
theorem m_isKey (x : Wr) (k : V) (p : Nat) (w : World) (hk : Vb w p k) :
    Calls Tryz.prog 98 #[x.val, .pointer (some ⟨p, 0, none⟩)] w fun e w' => e = .returned (.bool (eqV x.k k)) ∧ w.grownBy w' none := by
  have hga := World.grownBy_alloc w (.cells #[.int .i64 x.k.k, .int .i64 x.k.n, .string x.k.s, .int .i64 x.v.k, .int .i64 x.v.n, .string x.v.s, .bool x.g] 62) none
  have hk1 := hk.kept hga (by simp)
  have c0 := hk1.c0
  have c1 := hk1.c1
  have c2 := hk1.c2
  have heq : ∀ W0 : World, (binOp .eql 31 (.agg #[.int .i64 x.k.k, .int .i64 x.k.n, .string x.k.s]) (.agg #[.int .i64 k.k, .int .i64 k.n, .string k.s])).run Tryz.prog W0 = .ok (.bool (eqV x.k k)) W0 := fun W0 => run_eqV _ _ _ _ _ _ W0
  unfold Wr.val
  go_enter Tryz.func98, Tryz.ntmps98
  go_wp2
  go_ret
  exact ⟨rfl, hga⟩
set_option maxRecDepth 100000 in
set_option maxHeartbeats 1000000 in
theorem m_index (v : Value) (l : List Wr) (k : V) (p : Nat) (w : World) (hL : Rw Wr.cells 7 w v l) (hk : Vb w p k) :
    Calls Tryz.prog 97 #[v, .func (.func 98) #[] #[.pointer (some ⟨p, 0, none⟩)]] w fun e w' => e = .returned (.int .i64 (idI (nam l k))) ∧ w.grownBy w' none := by
  obtain ⟨a, cap, rfl, h1, h2, h3⟩ := hL
  have hlm : (l.length : Int) ≤ 9223372036854775807 := by unfold maxLen at h2; omega
  obtain ⟨R, HR⟩ : ∃ R, Hid (idI (nam l k) = R) := ⟨_, rfl⟩
  rw [HR.out]
  have H3 := hide h3
  have HK := hide hk
  clear h3 hk
  go_enter Tryz.func97, Tryz.ntmps97
  go_wp2_with fail
  go_loopw [8] (fun t wr => ∃ j : Nat, j ≤ l.length ∧ t = .int .i64 j ∧ w.grownBy wr none ∧ Hid (∀ i, i < j → (l.getD i dW).k ≠ k)) (fun t _ => l.length - (intOf t).toNat)
  case atStart => exact ⟨0, Nat.zero_le _, rfl, World.grownBy.refl _ _, fun j hj => by omega⟩
  case round =>
    obtain ⟨j, hj, rfl, hg, Hj⟩ := hrel
    by_cases hlt : j < l.length
    · have hki : (j : Int) < (l.length : Int) := by omega
      obtain ⟨b, off, rfl, hb, hc⟩ := H3.out j hlt
      have hcs : ∀ i u, (Wr.cells l[j])[i]? = some u → wr.cell? ⟨b, off + j * 7 + i, none⟩ = some u := fun i u hu => (cell_same (hg.block b hb (by simp)) _).trans (hc i u hu)
      have d0 : wr.cell? ⟨b, off + j * 7, none⟩ = some (.int .i64 l[j].k.k) := hcs 0 _ rfl
      have d1 := hcs 1 _ rfl
      have d2 := hcs 2 _ rfl
      have d3 := hcs 3 _ rfl
      have d4 := hcs 4 _ rfl
      have d5 := hcs 5 _ rfl
      have d6 := hcs 6 _ rfl
      have hcall := m_isKey l[j] k p wr (HK.out.kept hg (by simp))
      have Hl : Hid (l.getD j dW = l[j]) := getD_lt l j dW hlt
      clear hcs hc
      generalize l[j] = y at *
      unfold Wr.val at hcall
      cases he : eqV y.k k with
      | true =>
        have e := HR.out
        rw [nam_at hlt (by rw [Hl.out]; exact eqV_iff.1 he) Hj.out] at e
        have e' : R = (j : Int) := e.symm
        subst e'
        clear e
        rw [he] at hcall
        clear he
        go_wp2_with (first | (go_at_call 98; refine hcall.mono ?_; rintro e w2 ⟨rfl, hg2⟩) | (refine hcall.mono ?_; rintro e w2 ⟨rfl, hg2⟩))
        go_ret
        exact ⟨rfl, grown_up hg hg2⟩
      | false =>
        have Hj' : Hid (∀ i, i < j + 1 → (l.getD i dW).k ≠ k) := by
          intro i hi
          rcases Nat.lt_or_ge i j with h | h
          · exact Hj.out i h
          · obtain rfl : i = j := by omega
            rw [Hl.out]
            intro e
            rw [eqV_iff.2 e] at he
            cases he
        rw [he] at hcall
        clear he
        go_wp2_with (first | (go_at_call 98; refine hcall.mono ?_; rintro e w2 ⟨rfl, hg2⟩) | (refine hcall.mono ?_; rintro e w2 ⟨rfl, hg2⟩))
        go_roundw
        case rel => exact ⟨j + 1, by omega, by go_num, grown_up hg hg2, Hj'⟩
        case measure => simp [intOf]; omega
    · obtain rfl : j = l.length := by omega
      have e := HR.out
      rw [nam_not Hj.out] at e
      have e' : R = -1 := e.symm
      subst e'
      clear e
      go_wp2
      go_ret
      exact ⟨rfl, hg⟩
set_option maxRecDepth 100000 in
set_option maxHeartbeats 1000000 in
theorem m_named (B : Bd) (g : Nat) (tv rv pv ov kv : Value) (S : Ms) (k : V) (w : World) (hM : Mb B w g tv S rv pv ov kv) :
    Calls Tryz.prog 82 #[.pointer (some ⟨g, 0, none⟩), k.val] w fun e w' => e = .returned (.int .i64 (idI (nam S.pu k))) ∧ w.grownBy w' none := by
  have hga := World.grownBy_alloc w (.cells #[.int .i64 k.k, .int .i64 k.n, .string k.s] 31) none
  have hV : Vb (w.alloc (.cells #[.int .i64 k.k, .int .i64 k.n, .string k.s] 31)) w.heap.size k := Vb.new w k
  have hM1 := hM.keptN hga
  have t3 := hM1.tb.c3
  have hcall := m_index pv S.pu k w.heap.size _ (hM1.pu.rw clW) hV
  have hmf : ∀ (fn : Fn) (first cap : Array Value) (w : World), (Instr.makeFunc fn first cap).run Tryz.prog w = .ok (.func fn first cap) w := fun _ _ _ _ => rfl
  unfold V.val
  go_enter Tryz.func82, Tryz.ntmps82
  go_wp2_with (go_at_call 97; refine hcall.mono ?_; rintro e w2 ⟨rfl, hg2⟩)
  go_ret
  exact ⟨rfl, grown_up hga hg2⟩

end Go.Proofs.YtpoahegccjgnjaaGreatDoor

namespace Go.Proofs.YtpoahegccjgnjaaGreatDoor
open Go.RowKit
set_option linter.unusedVariables false

set_option maxRecDepth 100000 in
set_option maxHeartbeats 1000000 in
theorem m_both (B : Bd) (g : Nat) (tv rv pv ov kv : Value) (S : Ms) (x : V) (op a : Int) (b c : Nat) (lb : b < 6) (lc : c < 6) (w : World) (hM : Mb B w g tv S rv pv ov kv) (h6 : S.rg.length = 6) (k : Int) :
    Calls Tryz.prog 61 #[.pointer (some ⟨g, 0, none⟩), (⟨op, a, (b : Int), (c : Int), x⟩ : In).val, .int .i64 k] w fun e w' => e = .returned (.bool ((S.at (b : Int)).k == k && (S.at (c : Int)).k == k)) ∧ w.grownBy w' none := by
  obtain ⟨r, cap, rfl, hBr, hr, hrg⟩ := at_cells hM h6
  have hgb := World.grownBy_alloc w (.cells #[.int .i64 op, .int .i64 a, .int .i64 (b : Int), .int .i64 (c : Int), .int .i64 x.k, .int .i64 x.n, .string x.s] 44) none
  have hb : Ib (w.alloc (.cells #[.int .i64 op, .int .i64 a, .int .i64 (b : Int), .int .i64 (c : Int), .int .i64 x.k, .int .i64 x.n, .string x.s] 44)) w.heap.size ⟨op, a, (b : Int), (c : Int), x⟩ := Ib.new w ⟨op, a, (b : Int), (c : Int), x⟩
  have hM1 := hM.keptN hgb
  have lb' : (b : Int) < 6 := by omega
  have lc' : (c : Int) < 6 := by omega
  unfold In.val
  dsimp only
  go_enter Tryz.func61, Tryz.ntmps61
  go_upto_region 1 with fail
  have HG1 := hide (kp_n (B := B) hgb)
  generalize w.alloc (.cells #[.int .i64 op, .int .i64 a, .int .i64 (b : Int), .int .i64 (c : Int), .int .i64 x.k, .int .i64 x.n, .string x.s] 44) = W at *
  have hqg : g < w.heap.size := hM.lt
  generalize hq : w.heap.size = q at *
  obtain ⟨b0, b1, b2, b3, b4, b5, b6⟩ := hb.cs
  dsimp only at b0 b1 b2 b3 b4 b5 b6
  have t2 := hM1.tb.c2
  obtain ⟨br0, br1, br2, rf⟩ := rg_cells hM1 h6 b lb
  obtain ⟨cr0, cr1, cr2, rf⟩ := rg_cells hM1 h6 c lc
  cases hy : ((S.at (b : Int)).k == k) with
  | false =>
    go_quiet (fail)
    go_wp2
    go_ret
    exact ⟨by first | (rw [hy, hz]; rfl) | (rw [hy]; rfl), grown_up hgb (grown_drewN _ _ _)⟩
  | true =>
    cases hz : ((S.at (c : Int)).k == k) with
    | false =>
      go_quiet (fail)
      go_wp2
      go_ret
      exact ⟨by first | (rw [hy, hz]; rfl) | (rw [hy]; rfl), grown_up hgb (grown_drewN _ _ _)⟩
    | true =>
      go_quiet (fail)
      go_wp2
      go_ret
      exact ⟨by first | (rw [hy, hz]; rfl) | (rw [hy]; rfl), grown_up hgb (grown_drewN _ _ _)⟩


end Go.Proofs.YtpoahegccjgnjaaGreatDoor
