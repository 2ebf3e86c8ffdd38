/- Contracts, over the turned program: the first instruction that breaks a rule, the list of rules, and check.Check, which tells whether a program may be run. Conditions: those that each theorem states. -/
import Derived.Test.YtpoahegccjgnjaaGreatDoorQE
import Derived.Shelf.Abstract
namespace Go.Proofs.YtpoahegccjgnjaaGreatDoor
open Go.RowKit
set_option linter.unusedVariables false

/-- What rule.fault answers. -/
def FaultP (p : Nat → Bool) (n : Nat) (e : Ending) : Prop :=
  (∃ k, k < n ∧ (∀ j, j < k → p j = true) ∧ p k = false ∧ e = .returned (.tuple #[.int .i64 (k : Int), .bool true])) ∨ ((∀ j, j < n → p j = true) ∧ e = .returned (.tuple #[.int .i64 0, .bool false]))

set_option maxRecDepth 100000 in
set_option maxHeartbeats 1000000 in
theorem qfault_any (f : Nat) (p : List In → Nat → Bool) (hf : RuleP f p) (hent : ∀ args W, (callFunc f args).run Tryz.prog W = .ok (.enter f args) W) (er : Int) (v : Value) (l : List In) (w : World) (hT : Ins w v l) (hwf : ∀ x ∈ l, x.wf) (hG : Glob w) :
    Calls Tryz.prog 49 #[.agg #[.int .i64 er, .func (.func f) #[] #[]], v] w fun e w' => FaultP (p l) l.length e ∧ w.grownBy w' none := by
  obtain ⟨a, c, rfl, h1, h2, h3⟩ := hT
  have hT : Ins w (.slice a l.length c) l := ⟨a, c, rfl, h1, h2, h3⟩
  have hlm : (l.length : Int) ≤ 9223372036854775807 := by unfold maxLen at h2; omega
  have HT := hide hT
  have HF := hide hf
  clear h1 h2 h3 hT hf
  have hg0 := World.grownBy_alloc w (.cells #[.int .i64 er, .func (.func f) #[] #[]] 77) none
  go_enter Tryz.func49, Tryz.ntmps49
  go_wp2_with fail
  have HC : Hid ((w.alloc (.cells #[.int .i64 er, .func (.func f) #[] #[]] 77)).cell? ⟨w.heap.size, 1, none⟩ = some (.func (.func f) #[] #[])) := by show _ = _; simp
  generalize w.alloc (.cells #[.int .i64 er, .func (.func f) #[] #[]] 77) = W0 at *
  go_loopw [9] (fun t wr => ∃ k : Nat, k ≤ l.length ∧ t = .int .i64 k ∧ W0.grownBy wr none ∧ Hid (∀ j, j < k → p l j = true)) (fun t _ => l.length - (intOf t).toNat)
  case atStart => exact ⟨0, Nat.zero_le _, rfl, World.grownBy.refl _ _, fun j hj => by omega⟩
  case round =>
    obtain ⟨k, hk, rfl, hg, Hk⟩ := hrel
    have hgw := grown_up hg0 hg
    by_cases hlt : k < l.length
    · have hki : (k : Int) < (l.length : Int) := by omega
      have hcell : wr.cell? ⟨w.heap.size, 1, none⟩ = some (.func (.func f) #[] #[]) := (cell_same (hg.block _ (lt_of_cell HC.out) (by simp)) 1).trans HC.out
      have hcall := HF.out _ l k wr (HT.out.keptN hgw) hwf (hG.keptN hgw) hlt
      cases hp : p l k with
      | true =>
        have Hs : Hid (∀ j, j < k + 1 → p l j = true) := by
          intro j hj
          rcases Nat.lt_or_ge j k with h1 | h1
          · exact Hk.out j h1
          · obtain rfl : j = k := by omega
            exact hp
        rw [hp] at hcall
        clear hp
        go_wp2_with (refine hcall.mono ?_; rintro e w2 ⟨rfl, hg2⟩)
        go_roundw
        case rel => exact ⟨k + 1, by omega, by go_num, grown_up hg hg2, Hs⟩
        case measure => simp [intOf]; omega
      | false =>
        rw [hp] at hcall
        have Hp := hide hp
        clear hp
        go_wp2_with (refine hcall.mono ?_; rintro e w2 ⟨rfl, hg2⟩)
        go_ret2
        exact ⟨.inl ⟨k, hlt, Hk.out, Hp.out, rfl⟩, grown_up hgw hg2⟩
    · obtain rfl : k = l.length := by omega
      go_wp2
      go_ret2
      exact ⟨.inr ⟨Hk.out, rfl⟩, hgw⟩

set_option maxRecDepth 100000 in
set_option maxHeartbeats 400000 in
theorem qrules_any (w : World) :
    Calls Tryz.prog 48 #[] w fun e w' => e = .returned (.slice (some ⟨w.heap.size, 0, none⟩) 5 5) ∧ w' = w.alloc (.cells #[.int .i64 3, .func (.func 70) #[] #[], .int .i64 4, .func (.func 71) #[] #[], .int .i64 6, .func (.func 72) #[] #[], .int .i64 7, .func (.func 73) #[] #[], .int .i64 13, .func (.func 74) #[] #[]] 77) := by
  go_enter Tryz.func48, Tryz.ntmps48
  go_wp2
  go_ret
  exact ⟨rfl, rfl⟩

end Go.Proofs.YtpoahegccjgnjaaGreatDoor
