/- A step of a region that draws its order: what yields in every world that meets S is taken first. An append of one element of several cells to a row that the step has made, as a step of a region that draws its order. Conditions: those that each theorem states. -/
import Derived.Test.YtpoahegccjgnjaaGreatDoorHDefs
import Derived.Deep.RegionHeldLaw
import Derived.Deep.RegionHeld3
import Derived.Test.YtpoahegccjgnjaaGreatDoorIApp
namespace Go.Proofs.YtpoahegccjgnjaaGreatDoor
open Go Go.RowKit
set_option linter.unusedVariables false

theorem take_at {P : Program} {md : Region.Mode} {ops : Array Oper} {Q : Exit → Act → World → Prop} {S : World → Prop} {i d : Nat} {oi : Oper} {v : Value} {fuel : Nat} {listed : Array Bool} {a : Act} {w : World} (hi : ops[i]? = some oi) (hd : oi.dst = some d)
    (hs : Region.noSelect ops = true) (hf : Region.free md ops listed i = true) (hr : (Region.ready md ops listed).contains i = true)
    (hQ : ∀ c a w, Q (.panic c) (a.put oi.dst v) w → Q (.panic c) a w) (hy : YieldsIf P ops S oi v a) (hS : S w)
    (h : wpAnyH P md ops Q S fuel (listed.setIfInBounds i true) (a.put (some d) v) w) : wpAnyH P md ops Q S (fuel + 1) listed a w :=
  wpAnyH_take hi hs hf hr hQ hy hS (by rw [hd]; exact h)

end Go.Proofs.YtpoahegccjgnjaaGreatDoor

namespace Go.Proofs.YtpoahegccjgnjaaGreatDoor
open Go.RowKit
set_option linter.unusedVariables false

theorem hstep_app {P : Program} {w : World} {ops : Array Oper} {o : Oper} {a : Act} {K : Act → World → Prop} {Q : Exit → Act → World → Prop} {E : Prop} (d : Nat) (hd : o.dst = some d) (hgd : o.guard = none) (s x : Operand) (t tx ty : TypeId) (hty : o.type = ty)
    (ho : o.op = .call { callee := .builtin .append, args := #[s, x], argTypes := #[t, tx] }) (v xv : Value) (hs : a.eval s = v) (hx : a.eval x = xv) {v' : Value} {w' : World}
    (hr : (Builtin.append_ #[t, tx] ty #[v, xv]).run P w = .ok v' w') (h : K (a.put (some d) v') w') : if Region.wanted o (yielded ops a.tmps) = true then Oper.wp P o a w K Q else E := by
  subst hty
  rw [← hd] at h
  exact istep_app_at hgd s x t tx ho v xv hs hx hr h
theorem Rw.src {α : Type} {c : α → List Value} {n : Nat} (hc : Cl c n) (hn : 0 < n) {w : World} {v : Value} {l : List α} (h : Rw c n w v l) (t e : TypeId) (ht : Tryz.prog.underlying t = some (.slice e)) : Src Tryz.prog n t v l.length (fcs c l) w := by
  obtain ⟨a, cap, rfl, h1, h2, h3⟩ := h
  cases l with
  | nil =>
    cases a with
    | none => exact Src.ofNil w ht cap
    | some a => exact Src.ofSlice w ht a 0 cap [] (by simp) (by simp) (by simp)
  | cons x l =>
    obtain ⟨b, off, rfl, _, _⟩ := h3 0 (by simp)
    refine Src.ofSlice w ht ⟨b, off, none⟩ _ cap _ (fcs_len hc _) (fun j u hu => ?_) (fcs_one hc _)
    have hj : j < (fcs c (x :: l)).length := (List.getElem?_eq_some_iff.1 hu).1
    rw [fcs_len hc] at hj
    have hi : j / n < (x :: l).length := (Nat.div_lt_iff_lt_mul hn).2 hj
    have hm : j % n < n := Nat.mod_lt _ hn
    have ej : j = j / n * n + j % n := by rw [Nat.mul_comm]; exact (Nat.div_add_mod j n).symm
    rw [ej, fcs_at hc _ _ _ hi hm] at hu
    obtain ⟨b', off', e', _, hcell⟩ := h3 (j / n) hi
    cases e'
    rw [addr_plainI]
    have := hcell (j % n) u hu
    rw [show off + j = off + j / n * n + j % n by omega]
    exact this
theorem rw_one {α : Type} {c : α → List Value} {n : Nat} {e : TypeId} {w : World} (x : α) {p : Nat} (h : w.heap[p]? = some (.cells (c x).toArray e (0, 0))) : Rw c n w (.slice (some ⟨p, 0, none⟩) 1 1) [x] := by
  refine ⟨some ⟨p, 0, none⟩, 1, rfl, Nat.le_refl _, by decide, fun i hi => ⟨p, 0, rfl, (Array.getElem?_eq_some_iff.1 h).1, fun j u hu => ?_⟩⟩
  have : i = 0 := by simp at hi; omega
  subst this
  rw [show 0 + 0 * n + j = j by omega, cell_of_row w p j _ e (0, 0) h]
  simpa using hu
theorem app_oneR {α : Type} {c : α → List Value} {n : Nat} (hc : Cl c n) (hn : 0 < n) (t e : TypeId) (ht : Tryz.prog.underlying t = some (.slice e)) (z : Value) (by_ : Nat) (hinfo : (Tryz.prog.info? e).map (fun i => (i.zero, i.size, i.bytes)) = some (some z, n, by_)) (hzc : z.cells.size = n) (hby : by_ ≤ 100)
    (w : World) (B : Nat) (v : Value) (l : List α) (x : α) (p : Nat) (hO : OwR c n e w B v l) (h : w.heap[p]? = some (.cells (c x).toArray e (0, 0))) (hb : B ≤ w.heap.size) (hl : l.length ≤ 1000) :
    ∃ r cap w', (Builtin.append_ #[t, t] t #[v, .slice (some ⟨p, 0, none⟩) 1 1]).run Tryz.prog w = .ok (.slice (some ⟨r, 0, none⟩) (l.length + 1) cap) w' ∧ OwR c n e w' B (.slice (some ⟨r, 0, none⟩) (l.length + 1) cap) (l ++ [x]) ∧ w.grownBy w' v.ownBlock ∧ ((some r : Option Nat) = v.ownBlock ∨ (some r : Option Nat) = some w.heap.size) := by
  obtain ⟨i0, hi, hz0, hz1, hz2⟩ := info_parts hinfo
  obtain ⟨v', w', hr, h1, h2, h3⟩ := run_append_own_row (P := Tryz.prog) w B t t t e i0 z n by_ ht hi hz0 hzc hz1 hz2 v l.length (fcs c l) hO (.slice (some ⟨p, 0, none⟩) 1 1) 1 (fcs c [x]) ((rw_one (n := n) x h).src hc hn t e ht) (by omega) (by
    have : (l.length + 1) * by_ ≤ 1001 * 100 := Nat.mul_le_mul (by omega) hby
    omega) (by unfold maxLen; omega) hb
  rw [← fcs_append] at h1
  have h1' : OwR c n e w' B v' (l ++ [x]) := by unfold OwR; rw [List.length_append]; exact h1
  rcases h1'.shape with ⟨_, h0⟩ | ⟨r, cap, e1, _⟩
  · simp at h0
  · rw [List.length_append] at e1
    subst e1
    exact ⟨r, cap, w', hr, h1', h2, h3⟩
theorem infoW : (Tryz.prog.info? 62).map (fun i => (i.zero, i.size, i.bytes)) = some (some (.agg #[.int .i64 0, .int .i64 0, .string ByteArray.empty, .int .i64 0, .int .i64 0, .string ByteArray.empty, .bool false]), 7, 72) := by kernel_rfl

end Go.Proofs.YtpoahegccjgnjaaGreatDoor
