/- Contracts, over the turned program: text.inst; text.lines and the function that it hands back, a range over the numbered lines of a text. Conditions: those that each theorem states. -/
import Derived.Test.YthopmlgfklhagaaGreatDoorJTl
import Derived.Test.YthopmlgfklhagaaGreatDoorJWe
import Derived.RangeFuncNested
import Derived.RangeFuncBound
import Derived.RangeFuncCalls
import Derived.RangeFuncLeaves
import Derived.RangeFuncBox
import Derived.Shelf.Abstract
import Derived.Shelf.RegionOpen
import Derived.WalkKit
import Derived.OwnWalkIn
import Derived.TacticsInMore
import Derived.LoopNIn
import Derived.LoopIn
import Derived.Maps.AppendAt
namespace Go.Proofs.YthopmlgfklhagaaGreatDoor
open Go.RowKit
set_option linter.unusedVariables false

theorem tinst_any (v : Value) (ws : List (List UInt8)) (w : World) (hS : Wds w v ws) (hne : ws ≠ []) (hsz : ∀ x ∈ ws, x.length ≤ 1099511627776) (hG : G14 w) :
    Calls Tryz.prog 12 #[v] w fun e w' => e = .returned (.tuple #[(insV ws).val, .bool (insB ws)]) ∧ w.grownBy w' none := by
  by_cases hN : ((ws.length : Nat) : Int) = szW (opU (ws.headD []))
  · exact tinst_full v ws w hS hne hsz hG hN
  · have h := szW_none ws hne hN
    have e1 : insV ws = zI := by unfold insV; rw [h]; rfl
    have e2 : insB ws = false := by unfold insB; rw [h]; rfl
    rw [e1, e2]
    exact tinst_short v ws w hS hne hG hN

set_option maxHeartbeats 400000 in
theorem lines_any (s : ByteArray) (w : World) :
    Calls Tryz.prog 10 #[.string s] w fun e w' => e = .returned (.func (.func 19) #[] #[.pointer (some ⟨w.heap.size, 0, none⟩)]) ∧ w' = w.alloc (.cells #[.string s] 9) := by
  go_enter Tryz.func10, Tryz.ntmps10
  go_wp2
  go_ret
  exact ⟨rfl, rfl⟩

/-- How much is left of a text, where there is more. -/
def mz : Value → Value → Nat
  | .string x, .bool b => if b then x.size + 1 else 0
  | _, _ => 0
theorem cut_lines {t a r : List UInt8} {f : Bool} (h : CutP 10 t a r f) : (f = true ∧ splitC 10 t = a :: splitC 10 r ∧ r.length < t.length) ∨ (f = false ∧ splitC 10 t = [a]) := by
  rcases h with ⟨h1, h2, h3⟩ | ⟨h1, h2, _, h3⟩
  · refine .inl ⟨h1, ?_, ?_⟩
    · rw [h2]; exact splitC_clean 10 a r h3
    · rw [h2, List.length_append, List.length_cons]; omega
  · subst h2
    exact .inr ⟨h1, splitC_one 10 a h3⟩
theorem cut_lenA {c : UInt8} {t a r : List UInt8} {f : Bool} (h : CutP c t a r f) : a.length ≤ t.length := by
  rcases h with ⟨_, h1, h2⟩ | ⟨_, h1, h2, h3⟩
  · rw [h1, List.length_append]; omega
  · rw [h1]; exact Nat.le_refl _

/-- What has come of a text, and what is left of it. -/
def Lft (s t : List UInt8) (pre : List Ln) (b : Bool) : Prop := Nmd pre ∧ (b = true → splitC 10 s = pre.map Ln.l ++ splitC 10 t) ∧ (b = false → splitC 10 s = pre.map Ln.l)
theorem Lft.next {s t a r : List UInt8} {f : Bool} {pre : List Ln} {x : Ln} (h : Lft s t pre true) (hx : x.l = a) (hn : x.n = (pre.length : Int) + 1) (hc : CutP 10 t a r f) : Lft s r (pre ++ [x]) f := by
  have h2 := h.2.1 rfl
  refine ⟨h.1.snoc hn, fun hf => ?_, fun hf => ?_⟩
  · rcases cut_lines hc with ⟨_, h3, _⟩ | ⟨h3, _⟩
    · rw [h2, h3, List.map_append, List.map_singleton, hx, List.append_assoc]
      rfl
    · rw [h3] at hf; cases hf
  · rcases cut_lines hc with ⟨h3, _⟩ | ⟨_, h3⟩
    · rw [h3] at hf; cases hf
    · rw [h2, h3, List.map_append, List.map_singleton, hx]
theorem Lft.some {s r : List UInt8} {f : Bool} {pre : List Ln} (h : Lft s r pre f) : SomeL s pre := by
  cases f with
  | true => exact ⟨h.1, _, h.2.1 rfl⟩
  | false => exact ⟨h.1, [], by rw [h.2.2 rfl, List.append_nil]⟩

section
attribute [local go_sem] Oper.semAt_some
set_option maxRecDepth 100000 in
set_option maxHeartbeats 1000000 in
theorem lines1_in (n : Nat) (hn : 1 ≤ n) (l Bn n₀ B0 : Nat) (s : List UInt8) (hs : s.length ≤ 1099511627776) (J Jx : List Ln → World → Prop) (hJ : AbidesFrom B0 J)
    (hY : ∀ (pre : List Ln) (x : Ln) (W : World), J pre W → pre.length < (splitC 10 s).length → YieldAt Fence.wide (n - 1) Tryz.prog l #[.int .i64 x.n, .string (mkB x.l)] W fun e W' =>
      (e = .returned (.bool true) ∧ J (pre ++ [x]) W' ∧ Below n₀ W W') ∨ (e = .returned (.bool false) ∧ Jx (pre ++ [x]) W'))
    (W : World) (hBn : W.cell? ⟨Bn, 0, none⟩ = some (.string (mkB s))) (h0 : J [] W) :
    CallsIn Fence.wide n Tryz.prog 19 #[.func (.yield l) #[] #[], .pointer (some ⟨Bn, 0, none⟩)] W fun e W' => (∃ v, e = .returned v) ∧
      ((∃ ys, AllL s ys ∧ J ys W') ∨ (∃ pre, SomeL s pre ∧ Jx pre W')) := by
  refine callsIn_of_wp Tryz.func19 rfl trivial ?_ rfl
  simp only [Tryz.ntmps19, List.size_toArray, List.length_cons, List.length_nil, Nat.reduceAdd, Nat.reduceSub, Array.replicate_succ, Array.replicate_zero, List.push_toArray, List.append_toArray, List.nil_append, List.cons_append]
  gi_wp2
  gi_loopw [3, 4, 5] (fun rs mr nu wr => ∃ (pre : List Ln) (t : List UInt8) (b : Bool), rs = .string (mkB t) ∧ mr = .bool b ∧ nu = .int .i64 ((pre.length : Int) + 1) ∧ t.length ≤ 1099511627776 ∧ J pre wr ∧ Hid (Lft s t pre b))
    (fun rs mr _ _ => mz rs mr)
  case atStart =>
    exact ⟨[], s, true, rfl, rfl, rfl, hs, h0, Nmd.nil, fun _ => rfl, fun h => by cases h⟩
  case round =>
    obtain ⟨pre, t, b, rfl, rfl, rfl, ht, hJs, HX⟩ := hrel
    cases b with
    | false =>
      gi_wp2
      go_end0
      have h := HX.out.2.2 rfl
      exact ⟨⟨_, rfl⟩, .inl ⟨pre, ⟨HX.out.1, h.symm⟩, hJs⟩⟩
    | true =>
      have hsp := HX.out.2.1 rfl
      have hlt : pre.length < (splitC 10 s).length := by
        rw [hsp, List.length_append, List.length_map]
        have := List.length_pos_iff.2 (splitC_ne 10 t)
        omega
      have hsl := split_len 10 s
      have hpl : pre.length ≤ 1099511627776 := by omega
      have Hlt := hide hlt
      have Ht := hide ht
      clear hsp hsl hlt ht
      have hwn : wrap64 (((pre.length : Int) + 1) + 1) = ((pre.length : Int) + 1) + 1 := by unfold wrap64; omega
      gi_wp2_with (refine ⟨trivial, ?_⟩; gi_at_call 20; refine (callsIn_wide.2 (cut_one (mkB t) 10 _ (by rw [mkB_size]; exact Ht.out))).mono ?_; rintro e w2 ⟨⟨a, r, f, rfl, hcp⟩, hg⟩; rw [mkB_list] at hcp; have Hcp := hide hcp; clear hcp; have hJ2 := hJ pre wr w2 none hJs hg (fun r e => by cases e); have Hx := hide (HX.out.next (x := ⟨((pre.length : Int) + 1, a), Nat.le_trans (cut_lenA Hcp.out) Ht.out⟩) rfl rfl Hcp.out); obtain ⟨fn, tmps, assign, body, hy, hR⟩ := hY pre ⟨((pre.length : Int) + 1, a), Nat.le_trans (cut_lenA Hcp.out) Ht.out⟩ w2 hJ2 Hlt.out; dsimp only [Ln.n, Ln.l] at hy)
      refine hR.mono ?_
      rintro e W3 (⟨rfl, hJ3, hk3⟩ | ⟨rfl, hJx3⟩)
      · gi_wp2
        go_roundw
        case rel => exact ⟨_, r, f, rfl, rfl, by simp, Nat.le_trans (cut_len Hcp.out) Ht.out, hJ3, Hx⟩
        case measure =>
          show mz (.string (mkB r)) (.bool f) < mz (.string (mkB t)) (.bool true)
          have h1 : mz (.string (mkB t)) (.bool true) = t.length + 1 := by show (mkB t).size + 1 = _; rw [mkB_size]
          rw [h1]
          rcases cut_lines Hcp.out with ⟨hf, _, h3⟩ | ⟨hf, _⟩
          · rw [hf]
            show (mkB r).size + 1 < _
            rw [mkB_size]
            omega
          · rw [hf]
            show 0 < _
            omega
      · gi_wp2
        refine bodyPost_ret (results_none rfl _ _ _) rfl ?_
        exact ⟨⟨_, rfl⟩, .inr ⟨_, Hx.out.some, hJx3⟩⟩
end

end Go.Proofs.YthopmlgfklhagaaGreatDoor
