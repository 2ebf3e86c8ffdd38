/- Programs that may be run, one behind the other, in plain words (no program). No conditions but those that each theorem states. -/
import Derived.Test.YtnldjloiafilmaaDoorQMath
namespace Go.Proofs.YtnldjloiafilmaaDoor
open Go Go.RowKit
set_option linter.unusedVariables false

/-- Its goal moved by n. -/
def shiftI (n : Nat) (x : In) : In := if hasT x then ⟨x.op, x.a + (n : Int), x.b, x.c, x.v⟩ else x
theorem shift_op (n : Nat) (x : In) : (shiftI n x).op = x.op := by unfold shiftI; split <;> rfl
theorem shift_ends (n : Nat) (x : In) : endsI (shiftI n x) = endsI x := by unfold endsI; rw [shift_op]
theorem shift_hasT (n : Nat) (x : In) : hasT (shiftI n x) = hasT x := by unfold hasT; rw [shift_op]
theorem hasT_op {x : In} (h : hasT x = true) : x.op = 9 ∨ x.op = 10 := by
  unfold hasT at h
  simpa using h
theorem shift_reg (n : Nat) (x : In) : regOk (shiftI n x) = regOk x := by
  unfold shiftI
  split
  · next h =>
    unfold regOk regsI opL skipA
    rcases hasT_op h with e | e
    · dsimp only
      rw [e]
      rfl
    · dsimp only
      rw [e]
      rfl
  · rfl
theorem shift_ok (n : Nat) (x : In) (m : Nat) (h : okI x = true) (ht : tgtOk m x = true) (hm : m + n ≤ 64) : okI (shiftI n x) = true ∧ tgtOk (n + m) (shiftI n x) = true := by
  unfold shiftI
  split
  · next hT =>
    unfold tgtOk at ht ⊢
    rw [hT] at ht
    have hg := of_decide_eq_true (by simpa using ht : decide (x.a < (m : Int)) = true)
    obtain ⟨o1, o2, o3, o4, o5⟩ := okI_parts h
    have hb := of_decide_eq_true (fit_lt o2).1
    constructor
    · unfold okI
      dsimp only
      rw [o1, o3, o4, o5]
      have hn : 0 < nOps x.op := by rcases hasT_op hT with e | e <;> rw [e] <;> decide
      have hf : fitO (nOps x.op) 0 (x.a + (n : Int)) = true := by
        unfold fitO byteOk
        rw [decide_eq_true (by omega), decide_eq_true hn]
        rfl
      rw [hf]
      rfl
    · rw [show hasT (⟨x.op, x.a + (n : Int), x.b, x.c, x.v⟩ : In) = hasT x from rfl, hT]
      dsimp only
      rw [decide_eq_true (by omega)]
      rfl
  · next hT =>
    refine ⟨h, ?_⟩
    unfold tgtOk
    have : hasT x = false := by simpa using hT
    rw [this]
    rfl
theorem tgt_more {n m : Nat} (h : n ≤ m) {x : In} (ht : tgtOk n x = true) : tgtOk m x = true := by
  unfold tgtOk at ht ⊢
  cases hT : hasT x with
  | false => rfl
  | true =>
    rw [hT] at ht
    have hg := of_decide_eq_true (by simpa using ht : decide (x.a < (n : Int)) = true)
    rw [decide_eq_true (by omega)]
    rfl
theorem last_snoc (l : List In) (x d : In) : (l ++ [x]).getD ((l ++ [x]).length - 1) d = x := by
  rw [List.length_append, List.length_singleton, Nat.add_sub_cancel, List.getD_eq_getElem?_getD, List.getElem?_append_right (Nat.le_refl _), Nat.sub_self]
  rfl
def doneI : In := ⟨18, 0, 0, 0, zV⟩
theorem done_ok : okI doneI = true := by
  unfold okI doneI
  dsimp only
  rw [if_neg (by decide), (zeroB_iff _).2 rfl]
  decide
theorem runOk_done {a : List In} (h : RunOk a) (hl : a.length ≤ 63) : RunOk (a ++ [doneI]) := by
  refine ⟨by simp, by simp; omega, ?_, ?_, ?_, ?_⟩
  · rw [List.all_append, h.ok, List.all_cons, done_ok]; rfl
  · rw [List.all_append, h.rg]; rfl
  · rw [List.all_append, Bool.and_eq_true]
    refine ⟨?_, rfl⟩
    rw [List.all_eq_true]
    intro x hx
    exact tgt_more (by simp) (List.all_eq_true.1 h.tg x hx)
  · rw [last_snoc]; rfl
theorem runOk_two {a b : List In} (ha : RunOk a) (hb : RunOk b) (hl : a.length + b.length ≤ 64) : RunOk (a ++ b.map (shiftI a.length)) := by
  have hlen : (a ++ b.map (shiftI a.length)).length = a.length + b.length := by simp
  have hb0 := hb.l0
  refine ⟨by rw [hlen]; omega, by rw [hlen]; omega, ?_, ?_, ?_, ?_⟩
  · rw [List.all_append, ha.ok, Bool.true_and, List.all_eq_true]
    intro y hy
    obtain ⟨x, hx, rfl⟩ := List.mem_map.1 hy
    exact (shift_ok a.length x b.length (List.all_eq_true.1 hb.ok x hx) (List.all_eq_true.1 hb.tg x hx) (by omega)).1
  · rw [List.all_append, ha.rg, Bool.true_and, List.all_eq_true]
    intro y hy
    obtain ⟨x, hx, rfl⟩ := List.mem_map.1 hy
    rw [shift_reg]
    exact List.all_eq_true.1 hb.rg x hx
  · rw [hlen, List.all_append, Bool.and_eq_true]
    constructor
    · rw [List.all_eq_true]
      intro x hx
      exact tgt_more (by omega) (List.all_eq_true.1 ha.tg x hx)
    · rw [List.all_eq_true]
      intro y hy
      obtain ⟨x, hx, rfl⟩ := List.mem_map.1 hy
      exact (shift_ok a.length x b.length (List.all_eq_true.1 hb.ok x hx) (List.all_eq_true.1 hb.tg x hx) (by omega)).2
  · have he := hb.en
    rw [hlen, List.getD_eq_getElem?_getD, List.getElem?_append_right (by omega), List.getElem?_map, show a.length + b.length - 1 - a.length = b.length - 1 by omega]
    rw [List.getD_eq_getElem?_getD] at he
    rw [List.getElem?_eq_getElem (by omega)] at he ⊢
    rw [Option.map_some, Option.getD_some, shift_ends]
    exact he

end Go.Proofs.YtnldjloiafilmaaDoor
