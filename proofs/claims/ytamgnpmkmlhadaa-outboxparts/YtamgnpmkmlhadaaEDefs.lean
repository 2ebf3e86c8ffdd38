/- What lies in memory: a record, three numbers; numbers as they are converted. No conditions but those that each theorem states. -/
import Derived.Test.YtamgnpmkmlhadaaEMath
import Derived.Test.YtamgnpmkmlhadaaKRead
import Derived.Test.YtamgnpmkmlhadaaKWrite
namespace Go.Proofs.Ytamgnpmkmlhadaa
open Go Go.RowKit
set_option linter.unusedVariables false

theorem n2u_wr9 (o : Int) : IntKind.u64.wrap o = (n2u o : Int) := by
  rw [IntKind.wrap_u64]; unfold n2u; omega
theorem n2u_lt9 (o : Int) : ((n2u o : Nat) : Int) < 18446744073709551616 := by unfold n2u; omega
theorem nat_wr9 (o : Int) (m : Int) (h : 0 ≤ o ∧ o ≤ m) (hm : m < 18446744073709551616) : IntKind.u64.wrap o = ((o.toNat : Nat) : Int) ∧ ((o.toNat : Nat) : Int) < 18446744073709551616 := by
  rw [IntKind.wrap_u64]
  omega
theorem fits_byte9 (o : Int) (h : ir o) (w : World) :
    Calls Try.prog 42 #[.int .u64 (n2u o), .int .i64 1] w fun y w' => y = .returned (.bool (byteOk o)) ∧ w' = w := by
  have h1 := fits_any (n2u o) 1 w (n2u_lt9 o)
  have e : fitsB (n2u o) 1 = byteOk o := by
    unfold fitsB
    rw [wid1]
    unfold byteOk n2u
    rw [decide_eq_decide]
    unfold ir at h
    show _ < 256 ↔ _
    omega
  rw [e] at h1
  exact h1
theorem tup_one9 (w : World) (x : V) (e : TypeId) (g : Nat) (hg : w.heap.size = g) : Tup (w.alloc (.cells #[.int .i64 x.k, .int .i64 x.n, .string x.s] e)) (.slice (some ⟨g, 0, none⟩) 1 1) [x] := by
  subst hg
  refine ⟨some ⟨w.heap.size, 0, none⟩, 1, rfl, Nat.le_refl _, by decide, fun i hi => ?_⟩
  have : i = 0 := by simp at hi; omega
  subst this
  refine ⟨w.heap.size, 0, rfl, by simp, ?_, ?_, ?_⟩ <;> simp
theorem wrE_one9 (x : V) : (wrE [x] == 0) = okV x := by
  unfold wrE
  by_cases h : okV x = true
  · simp [h]
  · simp [h]
theorem results_one9 {fn : Func} {p : Tmp} {ty : TypeId} (h : fn.results = #[.cell p ty]) (tmps : Array Value) (P : Program) (w : World) :
    (results fn tmps).run P w = ((asAddr (tmps.getD p undef)).run P w).andThen fun a w₁ => (loadVar ty a).run P w₁ := by
  simp only [results, h]
  simp [Sem.run_bind, Result.andThen]
theorem results_v9 {fn : Func} {p : Tmp} (h : fn.results = #[.cell p 24]) (tmps : Array Value) (g : Nat) (W : World) (x : V) (hp : tmps.getD p undef = .pointer (some ⟨g, 0, none⟩)) (hV : Vb W g x) :
    (results fn tmps).run Try.prog W = .ok x.val W := by
  rw [results_one9 h, hp]
  simp [asAddr, Result.andThen, load_vb hV]

/-- Count number k. -/
def Rc9.fl (x : Rc9) (k : Nat) : Int := if k = 0 then x.p else if k = 1 then x.o else x.k
/-- A record as a value, as cells. -/
def Rc9.val (x : Rc9) : Value := .agg #[.int .i64 x.e, .int .i64 x.v.k, .int .i64 x.v.n, .string x.v.s, .int .i64 x.sl, .int .i64 x.p, .int .i64 x.o, .int .i64 x.k]
def Rb (t : TypeId) (w : World) (b : Nat) (x : Rc9) : Prop := w.heap[b]? = some (.cells #[.int .i64 x.e, .int .i64 x.v.k, .int .i64 x.v.n, .string x.v.s, .int .i64 x.sl, .int .i64 x.p, .int .i64 x.o, .int .i64 x.k] t (0, 0))
theorem Rb.new (t : TypeId) (w : World) (x : Rc9) : Rb t (w.alloc (.cells #[.int .i64 x.e, .int .i64 x.v.k, .int .i64 x.v.n, .string x.v.s, .int .i64 x.sl, .int .i64 x.p, .int .i64 x.o, .int .i64 x.k] t)) w.heap.size x := heap_alloc_new w _
theorem Rb.lt {t : TypeId} {w : World} {b : Nat} {x : Rc9} (h : Rb t w b x) : b < w.heap.size := (Array.getElem?_eq_some_iff.1 h).1
theorem Rb.kept {t : TypeId} {w w' : World} {b : Nat} {x : Rc9} {row : Option Nat} (h : Rb t w b x) (hg : w.grownBy w' row) (hne : some b ≠ row) : Rb t w' b x := by
  unfold Rb
  rw [hg.block b h.lt hne]
  exact h
theorem Rb.cs {t : TypeId} {w : World} {b : Nat} {x : Rc9} (h : Rb t w b x) : w.cell? ⟨b, 0, none⟩ = some (.int .i64 x.e) ∧ w.cell? ⟨b, 1, none⟩ = some (.int .i64 x.v.k) ∧ w.cell? ⟨b, 2, none⟩ = some (.int .i64 x.v.n) ∧ w.cell? ⟨b, 3, none⟩ = some (.string x.v.s) ∧
    w.cell? ⟨b, 4, none⟩ = some (.int .i64 x.sl) ∧ w.cell? ⟨b, 5, none⟩ = some (.int .i64 x.p) ∧ w.cell? ⟨b, 6, none⟩ = some (.int .i64 x.o) ∧ w.cell? ⟨b, 7, none⟩ = some (.int .i64 x.k) := by
  refine ⟨?_, ?_, ?_, ?_, ?_, ?_, ?_, ?_⟩
  · rw [cell_of_row w b 0 _ t (0, 0) h]; rfl
  · rw [cell_of_row w b 1 _ t (0, 0) h]; rfl
  · rw [cell_of_row w b 2 _ t (0, 0) h]; rfl
  · rw [cell_of_row w b 3 _ t (0, 0) h]; rfl
  · rw [cell_of_row w b 4 _ t (0, 0) h]; rfl
  · rw [cell_of_row w b 5 _ t (0, 0) h]; rfl
  · rw [cell_of_row w b 6 _ t (0, 0) h]; rfl
  · rw [cell_of_row w b 7 _ t (0, 0) h]; rfl
theorem Rb.fz {t : TypeId} {w : World} {b : Nat} {x : Rc9} (h : Rb t w b x) (j : Nat) : w.frozen? ⟨b, j, none⟩ = false := by
  unfold World.frozen?
  rw [show w.heap[(⟨b, j, none⟩ : Addr).block]? = _ from h]
  simp
theorem grown_set9 (w : World) (q j : Nat) (v : Value) : w.grownBy (w.setCell ⟨q, j, none⟩ v) (some q) := ⟨rfl, rfl, rfl, by simp, fun k _ hk => heap_setCell_other w _ k _ (fun hb => hk (by simp [hb]))⟩
theorem Rb.set0 {t : TypeId} {w : World} {b : Nat} {x : Rc9} (h : Rb t w b x) (z : Int) : Rb t (w.setCell ⟨b, 0, none⟩ (.int .i64 z)) b ⟨z, x.v, x.sl, x.p, x.o, x.k⟩ := by
  unfold Rb; rw [heap_setCell_same w b 0 _ t (.int .i64 z) h]; rfl
theorem Rb.set4 {t : TypeId} {w : World} {b : Nat} {x : Rc9} (h : Rb t w b x) (z : Int) : Rb t (w.setCell ⟨b, 4, none⟩ (.int .i64 z)) b ⟨x.e, x.v, z, x.p, x.o, x.k⟩ := by
  unfold Rb; rw [heap_setCell_same w b 4 _ t (.int .i64 z) h]; rfl
theorem Rb.set5 {t : TypeId} {w : World} {b : Nat} {x : Rc9} (h : Rb t w b x) (z : Int) : Rb t (w.setCell ⟨b, 5, none⟩ (.int .i64 z)) b ⟨x.e, x.v, x.sl, z, x.o, x.k⟩ := by
  unfold Rb; rw [heap_setCell_same w b 5 _ t (.int .i64 z) h]; rfl
theorem Rb.set6 {t : TypeId} {w : World} {b : Nat} {x : Rc9} (h : Rb t w b x) (z : Int) : Rb t (w.setCell ⟨b, 6, none⟩ (.int .i64 z)) b ⟨x.e, x.v, x.sl, x.p, z, x.k⟩ := by
  unfold Rb; rw [heap_setCell_same w b 6 _ t (.int .i64 z) h]; rfl
theorem Rb.set7 {t : TypeId} {w : World} {b : Nat} {x : Rc9} (h : Rb t w b x) (z : Int) : Rb t (w.setCell ⟨b, 7, none⟩ (.int .i64 z)) b ⟨x.e, x.v, x.sl, x.p, x.o, z⟩ := by
  unfold Rb; rw [heap_setCell_same w b 7 _ t (.int .i64 z) h]; rfl
def putV9 (w : World) (b : Nat) (v : V) : World := ((w.setCell ⟨b, 1, none⟩ (.int .i64 v.k)).setCell ⟨b, 2, none⟩ (.int .i64 v.n)).setCell ⟨b, 3, none⟩ (.string v.s)
theorem Rb.setV {t : TypeId} {w : World} {b : Nat} {x : Rc9} (h : Rb t w b x) (v : V) : Rb t (putV9 w b v) b ⟨x.e, v, x.sl, x.p, x.o, x.k⟩ ∧ w.grownBy (putV9 w b v) (some b) := by
  constructor
  · unfold Rb at h ⊢
    have h1 := heap_setCell_same w b 1 _ t (.int .i64 v.k) h
    have h2 := heap_setCell_same _ b 2 _ t (.int .i64 v.n) h1
    have h3 := heap_setCell_same _ b 3 _ t (.string v.s) h2
    unfold putV9
    rw [h3]
    rfl
  · unfold putV9
    exact grown_trans (grown_trans (grown_set9 _ _ _ _) (grown_set9 _ _ _ _) (.inl rfl)) (grown_set9 _ _ _ _) (.inl rfl)
def put8 (w : World) (q : Nat) (x : Rc9) : World :=
  (((((((w.setCell ⟨q, 0, none⟩ (.int .i64 x.e)).setCell ⟨q, 1, none⟩ (.int .i64 x.v.k)).setCell ⟨q, 2, none⟩ (.int .i64 x.v.n)).setCell ⟨q, 3, none⟩ (.string x.v.s)).setCell ⟨q, 4, none⟩ (.int .i64 x.sl)).setCell ⟨q, 5, none⟩ (.int .i64 x.p)).setCell ⟨q, 6, none⟩ (.int .i64 x.o)).setCell ⟨q, 7, none⟩ (.int .i64 x.k)
theorem Rb.put8 {t : TypeId} {w : World} {q : Nat} {x : Rc9} (h : Rb t w q x) (y : Rc9) : Rb t (put8 w q y) q y ∧ w.grownBy (Go.Proofs.Ytamgnpmkmlhadaa.put8 w q y) (some q) := by
  constructor
  · exact (((((h.set0 y.e).setV y.v).1.set4 y.sl).set5 y.p).set6 y.o).set7 y.k
  · unfold Go.Proofs.Ytamgnpmkmlhadaa.put8
    exact grown_trans (grown_trans (grown_trans (grown_trans (grown_trans (grown_trans (grown_trans (grown_set9 _ _ _ _) (grown_set9 _ _ _ _) (.inl rfl)) (grown_set9 _ _ _ _) (.inl rfl)) (grown_set9 _ _ _ _) (.inl rfl)) (grown_set9 _ _ _ _) (.inl rfl)) (grown_set9 _ _ _ _) (.inl rfl)) (grown_set9 _ _ _ _) (.inl rfl)) (grown_set9 _ _ _ _) (.inl rfl)
end Go.Proofs.Ytamgnpmkmlhadaa
