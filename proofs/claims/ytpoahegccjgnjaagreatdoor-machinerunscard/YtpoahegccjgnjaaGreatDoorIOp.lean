/- Contracts, over the turned program: code.Operands tells how many operands an Op has; code.fields the three operands; code.mayBe whether an instruction may be. Conditions: those that each theorem states. -/
import Derived.Test.YtpoahegccjgnjaaGreatDoorIDefs
import Derived.Test.YtpoahegccjgnjaaGreatDoorKWrite
import Derived.WalkLawsBesides
namespace Go.Proofs.YtpoahegccjgnjaaGreatDoor
open Go.RowKit
set_option linter.unusedVariables false

set_option maxRecDepth 100000 in
set_option maxHeartbeats 400000 in
theorem operands_any (op : Int) (w : World) (hG : Glob w) :
    Calls Tryz.prog 102 #[.int .i64 op] w fun e w' => e = .returned (.tuple #[.int .i64 (nOpI op), .bool (opOk op)]) ∧ w' = w := by
  by_cases h1 : op < 1
  · have e1 : opOk op = false := decide_eq_false (by omega)
    have e2 : nOpI op = 0 := by simp [nOpI, e1]
    rw [e1, e2]
    clear e1 e2
    go_enter Tryz.func102, Tryz.ntmps102
    go_wp2
    go_ret2
    exact ⟨rfl, rfl⟩
  · by_cases h2 : 20 ≤ op
    · have e1 : opOk op = false := decide_eq_false (by omega)
      have e2 : nOpI op = 0 := by simp [nOpI, e1]
      rw [e1, e2]
      clear e1 e2
      go_enter Tryz.func102, Tryz.ntmps102
      go_wp2
      go_ret2
      exact ⟨rfl, rfl⟩
    · have e1 : opOk op = true := decide_eq_true (by omega)
      have hc := hG.at op e1
      have e2 : nOpI op = (nOps op : Int) := by simp [nOpI, e1]
      rw [e1, e2]
      clear e1 e2
      obtain ⟨m, rfl⟩ := Int.eq_ofNat_of_zero_le (by omega : 0 ≤ op)
      rw [Int.toNat_natCast] at hc
      have hm0 : 1 ≤ m := by omega
      have hm1 : m < 20 := by omega
      clear h1 h2
      obtain ⟨z, hz⟩ : ∃ z, z = nOps (m : Int) := ⟨_, rfl⟩
      rw [← hz] at hc ⊢
      clear hz
      go_enter Tryz.func102, Tryz.ntmps102
      go_wp2
      go_ret2
      exact ⟨rfl, rfl⟩

theorem results_one {fn : Func} {p : Tmp} {ty : TypeId} (h : fn.results = #[.cell p ty]) (tmps : Array Value) (P : Program) (w : World) :
    (results fn tmps).run P w = ((asAddr (tmps.getD p undef)).run P w).andThen fun a w₁ => (loadVar ty a).run P w₁ := by
  simp only [results, h]
  simp [Sem.run_bind, Result.andThen]

/-- Three numbers in a block of their own. -/
def Ab (w : World) (b : Nat) (x y z : Int) : Prop := w.heap[b]? = some (.cells #[.int .i64 x, .int .i64 y, .int .i64 z] 125 (0, 0))
theorem Ab.cs {w : World} {b : Nat} {x y z : Int} (h : Ab w b x y z) : w.cell? ⟨b, 0, none⟩ = some (.int .i64 x) ∧ w.cell? ⟨b, 1, none⟩ = some (.int .i64 y) ∧ w.cell? ⟨b, 2, none⟩ = some (.int .i64 z) := by
  refine ⟨?_, ?_, ?_⟩
  · rw [cell_of_row w b 0 _ 125 (0, 0) h]; rfl
  · rw [cell_of_row w b 1 _ 125 (0, 0) h]; rfl
  · rw [cell_of_row w b 2 _ 125 (0, 0) h]; rfl
theorem Ab.lt {w : World} {b : Nat} {x y z : Int} (h : Ab w b x y z) : b < w.heap.size := (Array.getElem?_eq_some_iff.1 h).1
theorem Ab.fz {w : World} {b : Nat} {x y z : Int} (h : Ab w b x y z) (j : Nat) : w.frozen? ⟨b, j, none⟩ = false := by
  unfold World.frozen?
  rw [show w.heap[(⟨b, j, none⟩ : Addr).block]? = _ from h]
  simp
theorem Ab.kept {w w' : World} {b : Nat} {x y z : Int} {row : Option Nat} (h : Ab w b x y z) (hg : w.grownBy w' row) (hne : some b ≠ row) : Ab w' b x y z := by
  unfold Ab
  rw [hg.block b h.lt hne]
  exact h
theorem load_ab {w : World} {g : Nat} {x y z : Int} (h : Ab w g x y z) : (loadVar 125 ⟨g, 0, none⟩).run Tryz.prog w = .ok (.agg #[.int .i64 x, .int .i64 y, .int .i64 z]) w := by
  obtain ⟨c0, c1, c2⟩ := h.cs
  go_simp
theorem results_ab {fn : Func} {p : Tmp} (h : fn.results = #[.cell p 125]) (tmps : Array Value) (g : Nat) (W : World) (x y z : Int) (hp : tmps.getD p undef = .pointer (some ⟨g, 0, none⟩)) (hV : Ab W g x y z) :
    (results fn tmps).run Tryz.prog W = .ok (.agg #[.int .i64 x, .int .i64 y, .int .i64 z]) W := by
  rw [results_one h, hp]
  simp [asAddr, Result.andThen, load_ab hV]
theorem results_v1 {fn : Func} {p : Tmp} (h : fn.results = #[.cell p 31]) (tmps : Array Value) (g : Nat) (W : World) (x : V) (hp : tmps.getD p undef = .pointer (some ⟨g, 0, none⟩)) (hV : Vb W g x) :
    (results fn tmps).run Tryz.prog W = .ok x.val W := by
  rw [results_one h, hp]
  simp [asAddr, Result.andThen, load_vb hV]
theorem load_ib {w : World} {g : Nat} {x : In} (h : Ib w g x) : (loadVar 44 ⟨g, 0, none⟩).run Tryz.prog w = .ok x.val w := by
  obtain ⟨c0, c1, c2, c3, c4, c5, c6⟩ := h.cs
  go_simp
  rfl
theorem results_ib {fn : Func} {p : Tmp} (h : fn.results = #[.cell p 44]) (tmps : Array Value) (g : Nat) (W : World) (x : In) (hp : tmps.getD p undef = .pointer (some ⟨g, 0, none⟩)) (hV : Ib W g x) :
    (results fn tmps).run Tryz.prog W = .ok x.val W := by
  rw [results_one h, hp]
  simp [asAddr, Result.andThen, load_ib hV]

set_option maxRecDepth 100000 in
set_option maxHeartbeats 400000 in
theorem fields_any (x : In) (w : World) :
    Calls Tryz.prog 109 #[x.val] w fun e w' => e = .returned (.agg #[.int .i64 x.a, .int .i64 x.b, .int .i64 x.c]) ∧ w.grownBy w' none := by
  obtain ⟨op, a, b, c, k, n, s⟩ := x
  unfold In.val
  dsimp only
  go_enter Tryz.func109, Tryz.ntmps109
  go_wp2
  have hV : Ab ((w.alloc (.cells #[.int .i64 op, .int .i64 a, .int .i64 b, .int .i64 c, .int .i64 k, .int .i64 n, .string s] 44)).alloc (.cells #[.int .i64 a, .int .i64 b, .int .i64 c] 125)) (w.heap.size + 1) a b c := by
    have := heap_alloc_new (w.alloc (.cells #[.int .i64 op, .int .i64 a, .int .i64 b, .int .i64 c, .int .i64 k, .int .i64 n, .string s] 44)) (.cells #[.int .i64 a, .int .i64 b, .int .i64 c] 125)
    simpa [Ab] using this
  refine bodyPost_ret (results_ab rfl _ (w.heap.size + 1) _ a b c rfl hV) rfl ?_
  exact ⟨rfl, grown_trans (World.grownBy_alloc _ _ _) (World.grownBy_alloc _ _ _) (.inl rfl)⟩

theorem Fits1 (o : Int) : fitsB (n2u o) 1 = decide (n2u o < 256) := by unfold fitsB; rw [wid1]
theorem n2u_wrap (o : Int) : IntKind.u64.wrap o = (n2u o : Int) := by
  rw [IntKind.wrap_u64]; unfold n2u; omega
theorem n2u_lt (o : Int) : ((n2u o : Nat) : Int) < 18446744073709551616 := by unfold n2u; omega
theorem fits_byte (o : Int) (h0 : -9223372036854775808 ≤ o) (h1 : o < 9223372036854775808) (w : World) :
    Calls Tryz.prog 110 #[.int .u64 (n2u o), .int .i64 1] w fun y w' => y = .returned (.bool (byteOk o)) ∧ w' = w := by
  have h := fits_any (n2u o) 1 w (n2u_lt o)
  have e : fitsB (n2u o) 1 = byteOk o := by
    rw [Fits1]
    unfold byteOk n2u
    rw [decide_eq_decide]
    omega
  rw [e] at h
  exact h

end Go.Proofs.YtpoahegccjgnjaaGreatDoor
