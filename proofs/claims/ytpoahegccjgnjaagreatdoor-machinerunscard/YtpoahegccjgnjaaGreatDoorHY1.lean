/- The state of the document's Walk as it lies in memory: its own block, and the rows that it has made. Conditions: those that each theorem states. Contracts, over the turned program: the document's Walk: what turns a register, and its plain instructions. Conditions: those that each theorem states. Contract, over the turned program: the document's Walk: two registers that are the same. Conditions: those that each theorem states. Contract, over the turned program: the document's Walk: a register that is ahead of another one. Conditions: those that each theorem states. Contracts, over the turned program: the document's Walk: what comes of two numbers. Conditions: those that each theorem states. Contract, over the turned program: the document's Walk: two texts, one behind the other. Conditions: those that each theorem states. -/
import Derived.Test.YtpoahegccjgnjaaGreatDoorHDefs
import Derived.Test.YtpoahegccjgnjaaGreatDoorHJa
import Derived.Test.YtpoahegccjgnjaaGreatDoorHDk
import Derived.Test.YtpoahegccjgnjaaGreatDoorHJo
import Derived.Deep.RegionHeldLaw
import Derived.Deep.RegionLaw
import Derived.Test.YtpoahegccjgnjaaGreatDoorKCmpRef
import Derived.Test.YtpoahegccjgnjaaGreatDoorHDl
import Derived.Deep.CutRange
namespace Go.Proofs.YtpoahegccjgnjaaGreatDoor
open Go Go.RowKit
set_option linter.unusedVariables false

/-- The Walk's own block. -/
def Xb (w : World) (g : Nat) (tv : Value) (pc : Int) (rv pv ov kv : Value) (sl en : Int) (v : V) (fp : Int) (fr : Value) (ed bd : Bool) : Prop :=
  w.heap[g]? = some (.cells #[.int .i64 pc, rv, pv, ov, kv, .int .i64 sl, .int .i64 en, .int .i64 v.k, .int .i64 v.n, .string v.s, .int .i64 fp, fr, .bool ed, .bool bd, tv] 57 (0, 0))
section
variable {w : World} {g : Nat} {tv rv pv ov kv fr : Value} {pc sl en fp : Int} {v : V} {ed bd : Bool}
theorem Xb.lt (h : Xb w g tv pc rv pv ov kv sl en v fp fr ed bd) : g < w.heap.size := (Array.getElem?_eq_some_iff.1 h).1
theorem Xb.kept {w' : World} {row : Option Nat} (h : Xb w g tv pc rv pv ov kv sl en v fp fr ed bd) (hg : w.grownBy w' row) (hne : some g ≠ row) : Xb w' g tv pc rv pv ov kv sl en v fp fr ed bd := by
  unfold Xb
  rw [hg.block g h.lt hne]
  exact h
theorem Xb.fz (h : Xb w g tv pc rv pv ov kv sl en v fp fr ed bd) (j : Nat) : w.frozen? ⟨g, j, none⟩ = false := by
  unfold World.frozen?
  rw [show w.heap[(⟨g, j, none⟩ : Addr).block]? = _ from h]
  simp
theorem Xb.c0 (h : Xb w g tv pc rv pv ov kv sl en v fp fr ed bd) : w.cell? ⟨g, 0, none⟩ = some (.int .i64 pc) := by rw [cell_of_row w g 0 _ 57 (0, 0) h]; rfl
theorem Xb.c1 (h : Xb w g tv pc rv pv ov kv sl en v fp fr ed bd) : w.cell? ⟨g, 1, none⟩ = some rv := by rw [cell_of_row w g 1 _ 57 (0, 0) h]; rfl
theorem Xb.c2 (h : Xb w g tv pc rv pv ov kv sl en v fp fr ed bd) : w.cell? ⟨g, 2, none⟩ = some pv := by rw [cell_of_row w g 2 _ 57 (0, 0) h]; rfl
theorem Xb.c3 (h : Xb w g tv pc rv pv ov kv sl en v fp fr ed bd) : w.cell? ⟨g, 3, none⟩ = some ov := by rw [cell_of_row w g 3 _ 57 (0, 0) h]; rfl
theorem Xb.c4 (h : Xb w g tv pc rv pv ov kv sl en v fp fr ed bd) : w.cell? ⟨g, 4, none⟩ = some kv := by rw [cell_of_row w g 4 _ 57 (0, 0) h]; rfl
theorem Xb.c5 (h : Xb w g tv pc rv pv ov kv sl en v fp fr ed bd) : w.cell? ⟨g, 5, none⟩ = some (.int .i64 sl) := by rw [cell_of_row w g 5 _ 57 (0, 0) h]; rfl
theorem Xb.c6 (h : Xb w g tv pc rv pv ov kv sl en v fp fr ed bd) : w.cell? ⟨g, 6, none⟩ = some (.int .i64 en) := by rw [cell_of_row w g 6 _ 57 (0, 0) h]; rfl
theorem Xb.c7 (h : Xb w g tv pc rv pv ov kv sl en v fp fr ed bd) : w.cell? ⟨g, 7, none⟩ = some (.int .i64 v.k) := by rw [cell_of_row w g 7 _ 57 (0, 0) h]; rfl
theorem Xb.c8 (h : Xb w g tv pc rv pv ov kv sl en v fp fr ed bd) : w.cell? ⟨g, 8, none⟩ = some (.int .i64 v.n) := by rw [cell_of_row w g 8 _ 57 (0, 0) h]; rfl
theorem Xb.c9 (h : Xb w g tv pc rv pv ov kv sl en v fp fr ed bd) : w.cell? ⟨g, 9, none⟩ = some (.string v.s) := by rw [cell_of_row w g 9 _ 57 (0, 0) h]; rfl
theorem Xb.c10 (h : Xb w g tv pc rv pv ov kv sl en v fp fr ed bd) : w.cell? ⟨g, 10, none⟩ = some (.int .i64 fp) := by rw [cell_of_row w g 10 _ 57 (0, 0) h]; rfl
theorem Xb.c11 (h : Xb w g tv pc rv pv ov kv sl en v fp fr ed bd) : w.cell? ⟨g, 11, none⟩ = some fr := by rw [cell_of_row w g 11 _ 57 (0, 0) h]; rfl
theorem Xb.c12 (h : Xb w g tv pc rv pv ov kv sl en v fp fr ed bd) : w.cell? ⟨g, 12, none⟩ = some (.bool ed) := by rw [cell_of_row w g 12 _ 57 (0, 0) h]; rfl
theorem Xb.c13 (h : Xb w g tv pc rv pv ov kv sl en v fp fr ed bd) : w.cell? ⟨g, 13, none⟩ = some (.bool bd) := by rw [cell_of_row w g 13 _ 57 (0, 0) h]; rfl
theorem Xb.c14 (h : Xb w g tv pc rv pv ov kv sl en v fp fr ed bd) : w.cell? ⟨g, 14, none⟩ = some tv := by rw [cell_of_row w g 14 _ 57 (0, 0) h]; rfl
theorem xb_set (h : Xb w g tv pc rv pv ov kv sl en v fp fr ed bd) (o : Nat) (x : Value) : (w.setCell ⟨g, o, none⟩ x).heap[g]? = some (.cells ((#[.int .i64 pc, rv, pv, ov, kv, .int .i64 sl, .int .i64 en, .int .i64 v.k, .int .i64 v.n, .string v.s, .int .i64 fp, fr, .bool ed, .bool bd, tv] : Array Value).setIfInBounds o x) 57 (0, 0)) ∧ w.grownBy (w.setCell ⟨g, o, none⟩ x) (some g) :=
  ⟨heap_setCell_same w g o _ _ x h, ⟨rfl, rfl, rfl, by simp, fun k _ hk => heap_setCell_other w ⟨g, o, none⟩ k x (fun e => hk (by simp [e]))⟩⟩
theorem Xb.sPc (h : Xb w g tv pc rv pv ov kv sl en v fp fr ed bd) (z : Int) : Xb (w.setCell ⟨g, 0, none⟩ (.int .i64 z)) g tv z rv pv ov kv sl en v fp fr ed bd ∧ w.grownBy (w.setCell ⟨g, 0, none⟩ (.int .i64 z)) (some g) := xb_set h 0 _
theorem Xb.sPu (h : Xb w g tv pc rv pv ov kv sl en v fp fr ed bd) (z : Value) : Xb (w.setCell ⟨g, 2, none⟩ z) g tv pc rv z ov kv sl en v fp fr ed bd ∧ w.grownBy (w.setCell ⟨g, 2, none⟩ z) (some g) := xb_set h 2 _
theorem Xb.sOu (h : Xb w g tv pc rv pv ov kv sl en v fp fr ed bd) (z : Value) : Xb (w.setCell ⟨g, 3, none⟩ z) g tv pc rv pv z kv sl en v fp fr ed bd ∧ w.grownBy (w.setCell ⟨g, 3, none⟩ z) (some g) := xb_set h 3 _
theorem Xb.sKi (h : Xb w g tv pc rv pv ov kv sl en v fp fr ed bd) (z : Value) : Xb (w.setCell ⟨g, 4, none⟩ z) g tv pc rv pv ov z sl en v fp fr ed bd ∧ w.grownBy (w.setCell ⟨g, 4, none⟩ z) (some g) := xb_set h 4 _
theorem Xb.sSl (h : Xb w g tv pc rv pv ov kv sl en v fp fr ed bd) (z : Int) : Xb (w.setCell ⟨g, 5, none⟩ (.int .i64 z)) g tv pc rv pv ov kv z en v fp fr ed bd ∧ w.grownBy (w.setCell ⟨g, 5, none⟩ (.int .i64 z)) (some g) := xb_set h 5 _
theorem Xb.sEn (h : Xb w g tv pc rv pv ov kv sl en v fp fr ed bd) (z : Int) : Xb (w.setCell ⟨g, 6, none⟩ (.int .i64 z)) g tv pc rv pv ov kv sl z v fp fr ed bd ∧ w.grownBy (w.setCell ⟨g, 6, none⟩ (.int .i64 z)) (some g) := xb_set h 6 _
theorem Xb.sEd (h : Xb w g tv pc rv pv ov kv sl en v fp fr ed bd) (z : Bool) : Xb (w.setCell ⟨g, 12, none⟩ (.bool z)) g tv pc rv pv ov kv sl en v fp fr z bd ∧ w.grownBy (w.setCell ⟨g, 12, none⟩ (.bool z)) (some g) := xb_set h 12 _
theorem Xb.sBd (h : Xb w g tv pc rv pv ov kv sl en v fp fr ed bd) (z : Bool) : Xb (w.setCell ⟨g, 13, none⟩ (.bool z)) g tv pc rv pv ov kv sl en v fp fr ed z ∧ w.grownBy (w.setCell ⟨g, 13, none⟩ (.bool z)) (some g) := xb_set h 13 _
theorem Xb.sVa (h : Xb w g tv pc rv pv ov kv sl en v fp fr ed bd) (x : V) : Xb (((w.setCell ⟨g, 7, none⟩ (.int .i64 x.k)).setCell ⟨g, 8, none⟩ (.int .i64 x.n)).setCell ⟨g, 9, none⟩ (.string x.s)) g tv pc rv pv ov kv sl en x fp fr ed bd ∧ w.grownBy (((w.setCell ⟨g, 7, none⟩ (.int .i64 x.k)).setCell ⟨g, 8, none⟩ (.int .i64 x.n)).setCell ⟨g, 9, none⟩ (.string x.s)) (some g) := by
  have h1 := xb_set h 7 (.int .i64 x.k)
  have h1' : Xb (w.setCell ⟨g, 7, none⟩ (.int .i64 x.k)) g tv pc rv pv ov kv sl en ⟨x.k, v.n, v.s⟩ fp fr ed bd := h1.1
  have h2 := xb_set h1' 8 (.int .i64 x.n)
  have h2' : Xb ((w.setCell ⟨g, 7, none⟩ (.int .i64 x.k)).setCell ⟨g, 8, none⟩ (.int .i64 x.n)) g tv pc rv pv ov kv sl en ⟨x.k, x.n, v.s⟩ fp fr ed bd := h2.1
  have h3 := xb_set h2' 9 (.string x.s)
  exact ⟨h3.1, grown_trans (grown_trans h1.2 h2.2 (.inl rfl)) h3.2 (.inl rfl)⟩
theorem Xb.sFr (h : Xb w g tv pc rv pv ov kv sl en v fp fr ed bd) (z : Int) (y : Value) : Xb ((w.setCell ⟨g, 10, none⟩ (.int .i64 z)).setCell ⟨g, 11, none⟩ y) g tv pc rv pv ov kv sl en v z y ed bd ∧ w.grownBy ((w.setCell ⟨g, 10, none⟩ (.int .i64 z)).setCell ⟨g, 11, none⟩ y) (some g) := by
  have h1 := xb_set h 10 (.int .i64 z)
  have h1' : Xb (w.setCell ⟨g, 10, none⟩ (.int .i64 z)) g tv pc rv pv ov kv sl en v z fr ed bd := h1.1
  have h2 := xb_set h1' 11 y
  exact ⟨h2.1, grown_trans h1.2 h2.2 (.inl rfl)⟩
end

/-- The state of the Walk in memory: where it stands, in which way and with which value it ended, whether it ended, whether something may not be. -/
structure Xm (B : Bd) (w : World) (g : Nat) (tv : Value) (S : Ms) (en : Int) (v : V) (ed bd : Bool) (rv pv ov kv : Value) : Prop where
  tb : Xb w g tv S.pc rv pv ov kv S.sl en v 0 (.slice none 0 0) ed bd
  gB : Bk B g
  dl : B.2 < w.heap.size
  nd : ∀ k, (rv.ownBlock = some k ∨ pv.ownBlock = some k ∨ ov.ownBlock = some k ∨ kv.ownBlock = some k) → k ≠ B.2
  rg : OwR V.cells 3 31 w B.1 rv S.rg
  pu : OwR Wr.cells 7 62 w B.1 pv S.pu
  ou : OwR V.cells 3 31 w B.1 ov S.ou
  ki : OwR Sp.cells 7 64 w B.1 kv S.ki
  ap : Ap g rv pv ov kv
section
variable {B : Bd} {g : Nat} {w w' : World} {tv rv pv ov kv : Value} {S : Ms} {en : Int} {v : V} {ed bd : Bool}
theorem Xm.keptN (h : Xm B w g tv S en v ed bd rv pv ov kv) (hg : w.grownBy w' none) : Xm B w' g tv S en v ed bd rv pv ov kv :=
  ⟨h.tb.kept hg (by simp), h.gB, Nat.lt_of_lt_of_le h.dl hg.size, h.nd, h.rg.keptN hg, h.pu.keptN hg, h.ou.keptN hg, h.ki.keptN hg, h.ap⟩
/-- What stands in a block that the step doesn't know is turned. -/
theorem Xm.kb (h : Xm B w g tv S en v ed bd rv pv ov kv) {p : Nat} (hg : w.grownBy w' (some p)) (hp : p ≠ g ∧ rv.ownBlock ≠ some p ∧ pv.ownBlock ≠ some p ∧ ov.ownBlock ≠ some p ∧ kv.ownBlock ≠ some p) : Xm B w' g tv S en v ed bd rv pv ov kv :=
  ⟨h.tb.kept hg (fun e => hp.1 (Option.some.inj e).symm), h.gB, Nat.lt_of_lt_of_le h.dl hg.size, h.nd, h.rg.kept hg (.inr hp.2.1), h.pu.kept hg (.inr hp.2.2.1), h.ou.kept hg (.inr hp.2.2.2.1), h.ki.kept hg (.inr hp.2.2.2.2), h.ap⟩
/-- A block that is new to the step. -/
theorem Xm.new (h : Xm B w g tv S en v ed bd rv pv ov kv) {p : Nat} (hp : w.heap.size ≤ p) : p ≠ g ∧ rv.ownBlock ≠ some p ∧ pv.ownBlock ≠ some p ∧ ov.ownBlock ≠ some p ∧ kv.ownBlock ≠ some p :=
  ⟨by have := h.tb.lt; omega, fun e => by have := (h.rg.lt _ e).2; omega, fun e => by have := (h.pu.lt _ e).2; omega, fun e => by have := (h.ou.lt _ e).2; omega, fun e => by have := (h.ki.lt _ e).2; omega⟩
theorem Xm.lt (h : Xm B w g tv S en v ed bd rv pv ov kv) : g < w.heap.size := h.tb.lt
theorem Xm.rB (h : Xm B w g tv S en v ed bd rv pv ov kv) : ∀ k, rv.ownBlock = some k → Bk B k := fun k e => ⟨(h.rg.lt k e).1, h.nd k (.inl e)⟩
theorem Xm.puB (h : Xm B w g tv S en v ed bd rv pv ov kv) : ∀ k, pv.ownBlock = some k → Bk B k := fun k e => ⟨(h.pu.lt k e).1, h.nd k (.inr (.inl e))⟩
theorem Xm.ouB (h : Xm B w g tv S en v ed bd rv pv ov kv) : ∀ k, ov.ownBlock = some k → Bk B k := fun k e => ⟨(h.ou.lt k e).1, h.nd k (.inr (.inr (.inl e)))⟩
theorem Xm.kiB (h : Xm B w g tv S en v ed bd rv pv ov kv) : ∀ k, kv.ownBlock = some k → Bk B k := fun k e => ⟨(h.ki.lt k e).1, h.nd k (.inr (.inr (.inr e)))⟩
theorem Xm.newB (h : Xm B w g tv S en v ed bd rv pv ov kv) {p : Nat} (hp : w.heap.size ≤ p) : Bk B p := ⟨by have := h.gB.1; have := h.tb.lt; omega, by have := h.dl; omega⟩
/-- What stands in the step's own block is turned. -/
theorem Xm.own (h : Xm B w g tv S en v ed bd rv pv ov kv) (hg : w.grownBy w' (some g)) : OwR V.cells 3 31 w' B.1 rv S.rg ∧ OwR Wr.cells 7 62 w' B.1 pv S.pu ∧ OwR V.cells 3 31 w' B.1 ov S.ou ∧ OwR Sp.cells 7 64 w' B.1 kv S.ki :=
  ⟨h.rg.kept hg (ne_of fun k e => (h.ap.r k e).1), h.pu.kept hg (ne_of fun k e => (h.ap.p k e).1), h.ou.kept hg (ne_of fun k e => (h.ap.o k e).1), h.ki.kept hg (ne_of fun k e => h.ap.k k e)⟩
theorem Xm.to (h : Xm B w g tv S en v ed bd rv pv ov kv) (z : Int) : Xm B (w.setCell ⟨g, 0, none⟩ (.int .i64 z)) g tv (S.to z) en v ed bd rv pv ov kv ∧ w.grownBy (w.setCell ⟨g, 0, none⟩ (.int .i64 z)) (some g) := by
  have h1 := h.tb.sPc z
  obtain ⟨a, b, c, d⟩ := h.own h1.2
  exact ⟨⟨h1.1, h.gB, Nat.lt_of_lt_of_le h.dl h1.2.size, h.nd, a, b, c, d, h.ap⟩, h1.2⟩
theorem Xm.sl (h : Xm B w g tv S en v ed bd rv pv ov kv) (z : Int) : Xm B (w.setCell ⟨g, 5, none⟩ (.int .i64 z)) g tv ⟨S.pc, S.rg, S.pu, S.ou, S.ki, z⟩ en v ed bd rv pv ov kv ∧ w.grownBy (w.setCell ⟨g, 5, none⟩ (.int .i64 z)) (some g) := by
  have h1 := h.tb.sSl z
  obtain ⟨a, b, c, d⟩ := h.own h1.2
  exact ⟨⟨h1.1, h.gB, Nat.lt_of_lt_of_le h.dl h1.2.size, h.nd, a, b, c, d, h.ap⟩, h1.2⟩
/-- A register is turned. -/
theorem Xm.set {r cap : Nat} (h : Xm B w g tv S en v ed bd (.slice (some ⟨r, 0, none⟩) S.rg.length cap) pv ov kv) (i : Nat) (hi : i < S.rg.length) (x : V) :
    Xm B (w.setCells r (i * 3) (V.cells x)) g tv (S.set (i : Int) x) en v ed bd (.slice (some ⟨r, 0, none⟩) S.rg.length cap) pv ov kv ∧ w.grownBy (w.setCells r (i * 3) (V.cells x)) (some r) := by
  have h1 := OwR.put clV h.rg i hi x
  obtain ⟨n1, n2, n3, n4⟩ := h.ap.r r rfl
  have e : ∀ {u : Value}, u.ownBlock ≠ some r → (u.ownBlock = none ∨ u.ownBlock ≠ some r) := fun h => .inr h
  refine ⟨⟨h.tb.kept h1.2 (by simp; omega), h.gB, Nat.lt_of_lt_of_le h.dl h1.2.size, h.nd, ?_, h.pu.kept h1.2 (e n2), h.ou.kept h1.2 (e n3), h.ki.kept h1.2 (e n4), h.ap⟩, h1.2⟩
  exact h1.1
/-- An entry is turned. -/
theorem Xm.ent {r cap : Nat} (h : Xm B w g tv S en v ed bd rv (.slice (some ⟨r, 0, none⟩) S.pu.length cap) ov kv) (i : Nat) (hi : i < S.pu.length) (x : Wr) :
    Xm B (w.setCells r (i * 7) (Wr.cells x)) g tv ⟨S.pc, S.rg, S.pu.set i x, S.ou, S.ki, S.sl⟩ en v ed bd rv (.slice (some ⟨r, 0, none⟩) S.pu.length cap) ov kv ∧ w.grownBy (w.setCells r (i * 7) (Wr.cells x)) (some r) := by
  have h1 := OwR.put clW h.pu i hi x
  obtain ⟨n1, n2, n3⟩ := h.ap.p r rfl
  have e : ∀ {u : Value}, u.ownBlock ≠ some r → (u.ownBlock = none ∨ u.ownBlock ≠ some r) := fun h => .inr h
  have hr : rv.ownBlock ≠ some r := fun hh => (h.ap.r r hh).2.1 rfl
  exact ⟨⟨h.tb.kept h1.2 (by simp; omega), h.gB, Nat.lt_of_lt_of_le h.dl h1.2.size, h.nd, h.rg.kept h1.2 (e hr), h1.1, h.ou.kept h1.2 (e n2), h.ki.kept h1.2 (e n3), h.ap⟩, h1.2⟩
theorem Xm.appP (h : Xm B w g tv S en v ed bd rv pv ov kv) {pv' : Value} {pu' : List Wr} (hO : OwR Wr.cells 7 62 w' B.1 pv' pu') (hg : w.grownBy w' pv.ownBlock) (hw : pv'.ownBlock = pv.ownBlock ∨ pv'.ownBlock = some w.heap.size) :
    Xm B (w'.setCell ⟨g, 2, none⟩ pv') g tv ⟨S.pc, S.rg, pu', S.ou, S.ki, S.sl⟩ en v ed bd rv pv' ov kv := by
  have ht := h.tb.kept hg (fun e => (h.ap.p g e.symm).1 rfl)
  have h1 := ht.sPu pv'
  have ap : Ap g rv pv' ov kv := by
    refine ⟨fun k hk => ?_, apart hw (fun k hk => h.ap.p k hk) ⟨fun e => by have := h.lt; omega, not_new h.ou, not_new h.ki⟩, h.ap.o, h.ap.k⟩
    obtain ⟨a1, a2, a3, a4⟩ := h.ap.r k hk
    exact ⟨a1, fun e => by
      rcases hw with hw | hw
      · exact a2 (hw ▸ e)
      · rw [hw] at e; cases e; exact not_new h.rg hk, a3, a4⟩
  have hr := h.rg.kept hg (ne_bl fun k hk => (h.ap.r k hk).2.1)
  have ho := h.ou.kept hg (ne_bl fun k hk e => (h.ap.p k e).2.1 hk)
  have hk := h.ki.kept hg (ne_bl fun k hk e => (h.ap.p k e).2.2 hk)
  exact ⟨h1.1, h.gB, Nat.lt_of_lt_of_le h.dl (Nat.le_trans hg.size h1.2.size), fun k hk => by
    rcases hk with hk | hk | hk | hk
    · exact h.nd k (.inl hk)
    · exact apart (w := w) (P := fun k => k ≠ B.2) hw (fun k hh => h.nd k (.inr (.inl hh))) (fun e => by have := h.dl; omega) k hk
    · exact h.nd k (.inr (.inr (.inl hk)))
    · exact h.nd k (.inr (.inr (.inr hk))), hr.kept h1.2 (ne_of fun k e => (ap.r k e).1), hO.kept h1.2 (ne_of fun k e => (ap.p k e).1), ho.kept h1.2 (ne_of fun k e => (ap.o k e).1), hk.kept h1.2 (ne_of fun k e => ap.k k e), ap⟩
theorem Xm.appO (h : Xm B w g tv S en v ed bd rv pv ov kv) {ov' : Value} {ou' : List V} (hO : OwR V.cells 3 31 w' B.1 ov' ou') (hg : w.grownBy w' ov.ownBlock) (hw : ov'.ownBlock = ov.ownBlock ∨ ov'.ownBlock = some w.heap.size) :
    Xm B (w'.setCell ⟨g, 3, none⟩ ov') g tv ⟨S.pc, S.rg, S.pu, ou', S.ki, S.sl⟩ en v ed bd rv pv ov' kv := by
  have ht := h.tb.kept hg (fun e => (h.ap.o g e.symm).1 rfl)
  have h1 := ht.sOu ov'
  have no : ∀ {k : Nat} {u : Value}, u.ownBlock = some k → (ov.ownBlock ≠ some k) → (k ≠ w.heap.size) → ov'.ownBlock ≠ some k := fun hu a b e => by
    rcases hw with hw | hw
    · exact a (hw ▸ e)
    · rw [hw] at e; cases e; exact b rfl
  have ap : Ap g rv pv ov' kv := by
    refine ⟨fun k hk => ?_, fun k hk => ?_, apart hw (fun k hk => h.ap.o k hk) ⟨fun e => by have := h.lt; omega, not_new h.ki⟩, h.ap.k⟩
    · obtain ⟨a1, a2, a3, a4⟩ := h.ap.r k hk
      exact ⟨a1, a2, no hk a3 (fun e => not_new h.rg (e ▸ hk)), a4⟩
    · obtain ⟨a1, a2, a3⟩ := h.ap.p k hk
      exact ⟨a1, no hk a2 (fun e => not_new h.pu (e ▸ hk)), a3⟩
  have hr := h.rg.kept hg (ne_bl fun k hk => (h.ap.r k hk).2.2.1)
  have hp := h.pu.kept hg (ne_bl fun k hk => (h.ap.p k hk).2.1)
  have hk := h.ki.kept hg (ne_bl fun k hk e => (h.ap.o k e).2 hk)
  exact ⟨h1.1, h.gB, Nat.lt_of_lt_of_le h.dl (Nat.le_trans hg.size h1.2.size), fun k hk => by
    rcases hk with hk | hk | hk | hk
    · exact h.nd k (.inl hk)
    · exact h.nd k (.inr (.inl hk))
    · exact apart (w := w) (P := fun k => k ≠ B.2) hw (fun k hh => h.nd k (.inr (.inr (.inl hh)))) (fun e => by have := h.dl; omega) k hk
    · exact h.nd k (.inr (.inr (.inr hk))), hr.kept h1.2 (ne_of fun k e => (ap.r k e).1), hp.kept h1.2 (ne_of fun k e => (ap.p k e).1), hO.kept h1.2 (ne_of fun k e => (ap.o k e).1), hk.kept h1.2 (ne_of fun k e => ap.k k e), ap⟩
theorem Xm.appK (h : Xm B w g tv S en v ed bd rv pv ov kv) {kv' : Value} {ki' : List Sp} (hO : OwR Sp.cells 7 64 w' B.1 kv' ki') (hg : w.grownBy w' kv.ownBlock) (hw : kv'.ownBlock = kv.ownBlock ∨ kv'.ownBlock = some w.heap.size) :
    Xm B (w'.setCell ⟨g, 4, none⟩ kv') g tv ⟨S.pc, S.rg, S.pu, S.ou, ki', S.sl⟩ en v ed bd rv pv ov kv' := by
  have ht := h.tb.kept hg (fun e => h.ap.k g e.symm rfl)
  have h1 := ht.sKi kv'
  have no : ∀ {k : Nat} {u : Value}, u.ownBlock = some k → (kv.ownBlock ≠ some k) → (k ≠ w.heap.size) → kv'.ownBlock ≠ some k := fun hu a b e => by
    rcases hw with hw | hw
    · exact a (hw ▸ e)
    · rw [hw] at e; cases e; exact b rfl
  have ap : Ap g rv pv ov kv' := by
    refine ⟨fun k hk => ?_, fun k hk => ?_, fun k hk => ?_, apart hw (fun k hk => h.ap.k k hk) (fun e => by have := h.lt; omega)⟩
    · obtain ⟨a1, a2, a3, a4⟩ := h.ap.r k hk
      exact ⟨a1, a2, a3, no hk a4 (fun e => not_new h.rg (e ▸ hk))⟩
    · obtain ⟨a1, a2, a3⟩ := h.ap.p k hk
      exact ⟨a1, a2, no hk a3 (fun e => not_new h.pu (e ▸ hk))⟩
    · obtain ⟨a1, a2⟩ := h.ap.o k hk
      exact ⟨a1, no hk a2 (fun e => not_new h.ou (e ▸ hk))⟩
  have hr := h.rg.kept hg (ne_bl fun k hk => (h.ap.r k hk).2.2.2)
  have hp := h.pu.kept hg (ne_bl fun k hk => (h.ap.p k hk).2.2)
  have ho := h.ou.kept hg (ne_bl fun k hk => (h.ap.o k hk).2)
  exact ⟨h1.1, h.gB, Nat.lt_of_lt_of_le h.dl (Nat.le_trans hg.size h1.2.size), fun k hk => by
    rcases hk with hk | hk | hk | hk
    · exact h.nd k (.inl hk)
    · exact h.nd k (.inr (.inl hk))
    · exact h.nd k (.inr (.inr (.inl hk)))
    · exact apart (w := w) (P := fun k => k ≠ B.2) hw (fun k hh => h.nd k (.inr (.inr (.inr hh)))) (fun e => by have := h.dl; omega) k hk, hr.kept h1.2 (ne_of fun k e => (ap.r k e).1), hp.kept h1.2 (ne_of fun k e => (ap.p k e).1), ho.kept h1.2 (ne_of fun k e => (ap.o k e).1), hO.kept h1.2 (ne_of fun k e => ap.k k e), ap⟩
theorem Xm.flags (h : Xm B w g tv S en v ed bd rv pv ov kv) {S' : Ms} {en' : Int} {v' : V} {ed' bd' : Bool} (e1 : S'.rg = S.rg) (e2 : S'.pu = S.pu) (e3 : S'.ou = S.ou) (e4 : S'.ki = S.ki) (hb : Xb w' g tv S'.pc rv pv ov kv S'.sl en' v' 0 (.slice none 0 0) ed' bd') (hg : w.grownBy w' (some g)) : Xm B w' g tv S' en' v' ed' bd' rv pv ov kv := by
  obtain ⟨a, b, c, d⟩ := h.own hg
  exact ⟨hb, h.gB, Nat.lt_of_lt_of_le h.dl hg.size, h.nd, by rw [e1]; exact a, by rw [e2]; exact b, by rw [e3]; exact c, by rw [e4]; exact d, h.ap⟩
theorem Xm.sBd (h : Xm B w g tv S en v ed bd rv pv ov kv) (z : Bool) : Xm B (w.setCell ⟨g, 13, none⟩ (.bool z)) g tv S en v ed z rv pv ov kv ∧ w.grownBy (w.setCell ⟨g, 13, none⟩ (.bool z)) (some g) := ⟨h.flags rfl rfl rfl rfl (h.tb.sBd z).1 (h.tb.sBd z).2, (h.tb.sBd z).2⟩
theorem Xm.sEd (h : Xm B w g tv S en v ed bd rv pv ov kv) (z : Bool) : Xm B (w.setCell ⟨g, 12, none⟩ (.bool z)) g tv S en v z bd rv pv ov kv ∧ w.grownBy (w.setCell ⟨g, 12, none⟩ (.bool z)) (some g) := ⟨h.flags rfl rfl rfl rfl (h.tb.sEd z).1 (h.tb.sEd z).2, (h.tb.sEd z).2⟩
theorem Xm.sEn (h : Xm B w g tv S en v ed bd rv pv ov kv) (z : Int) : Xm B (w.setCell ⟨g, 6, none⟩ (.int .i64 z)) g tv S z v ed bd rv pv ov kv ∧ w.grownBy (w.setCell ⟨g, 6, none⟩ (.int .i64 z)) (some g) := ⟨h.flags rfl rfl rfl rfl (h.tb.sEn z).1 (h.tb.sEn z).2, (h.tb.sEn z).2⟩
theorem Xm.sVa (h : Xm B w g tv S en v ed bd rv pv ov kv) (x : V) : Xm B (((w.setCell ⟨g, 7, none⟩ (.int .i64 x.k)).setCell ⟨g, 8, none⟩ (.int .i64 x.n)).setCell ⟨g, 9, none⟩ (.string x.s)) g tv S en x ed bd rv pv ov kv ∧ w.grownBy (((w.setCell ⟨g, 7, none⟩ (.int .i64 x.k)).setCell ⟨g, 8, none⟩ (.int .i64 x.n)).setCell ⟨g, 9, none⟩ (.string x.s)) (some g) := ⟨h.flags rfl rfl rfl rfl (h.tb.sVa x).1 (h.tb.sVa x).2, (h.tb.sVa x).2⟩
end

/-- What an instruction leaves of the Walk. -/
def XR (B : Bd) (g : Nat) (tv : Value) (w' : World) : Rs → Prop
  | none => ∃ S' en v ed rv pv ov kv, Xm B w' g tv S' en v ed true rv pv ov kv
  | some (S', none) => ∃ rv pv ov kv, Xm B w' g tv S' 0 zV false false rv pv ov kv
  | some (S', some (en, v)) => ∃ rv pv ov kv, Xm B w' g tv S' en v true false rv pv ov kv
def XP (B : Bd) (w : World) (g : Nat) (tv : Value) (R : Rs) (e : Ending) (w' : World) : Prop := e = .returned (.tuple #[]) ∧ XR B g tv w' R ∧ Kp (Bk B) w w'

end Go.Proofs.YtpoahegccjgnjaaGreatDoor

namespace Go.Proofs.YtpoahegccjgnjaaGreatDoor
open Go Go.RowKit
set_option linter.unusedVariables false

theorem xt_cells {B : Bd} {g : Nat} {w : World} {tv rv pv ov kv : Value} {S : Ms} {en : Int} {v : V} {ed bd : Bool} (h : Xm B w g tv S en v ed bd rv pv ov kv) (h6 : S.rg.length = 6) : ∃ r cap, rv = .slice (some ⟨r, 0, none⟩) 6 cap ∧ Bk B r ∧ r < w.heap.size ∧ r ≠ g := by
  rcases h.rg.shape with ⟨_, h0⟩ | ⟨r, cap, rfl, h1, h2⟩
  · rw [h0] at h6; cases h6
  · refine ⟨r, cap, ?_, h.rB r rfl, h2, (h.ap.r r rfl).1⟩
    rw [h6]
theorem xg_cells {B : Bd} {g r cap : Nat} {w : World} {tv pv ov kv : Value} {S : Ms} {en : Int} {v : V} {ed bd : Bool} (h : Xm B w g tv S en v ed bd (.slice (some ⟨r, 0, none⟩) 6 cap) pv ov kv) (h6 : S.rg.length = 6) (i : Nat) (hi : i < 6) :
    w.cell? ⟨r, i * 3, none⟩ = some (.int .i64 (S.at (i : Int)).k) ∧ w.cell? ⟨r, i * 3 + 1, none⟩ = some (.int .i64 (S.at (i : Int)).n) ∧ w.cell? ⟨r, i * 3 + 2, none⟩ = some (.string (S.at (i : Int)).s) ∧ ∀ j, w.frozen? ⟨r, j, none⟩ = false := by
  have hl : i < S.rg.length := by omega
  have e : S.at (i : Int) = S.rg[i] := by
    unfold Ms.at
    rw [Int.toNat_natCast]
    exact getD_lt _ _ _ hl
  rw [e]
  have hc := fun j u hu => OwR.cells (r := r) h.rg clV rfl i hl j u hu
  exact ⟨hc 0 _ rfl, hc 1 _ rfl, hc 2 _ rfl, fun j => h.rg.fz h6.symm j⟩

/-- A register is turned at the end of a deed. -/
theorem xset_raw {B : Bd} {g r cap : Nat} {W : World} {tv pv ov kv : Value} {S : Ms} {en : Int} {v : V} {ed bd : Bool} (h : Xm B W g tv S en v ed bd (.slice (some ⟨r, 0, none⟩) 6 cap) pv ov kv) (h6 : S.rg.length = 6) (i : Nat) (hi : i < 6) (k n : Int) (s : ByteArray) :
    Xm B (((W.setCell ⟨r, i * 3, none⟩ (.int .i64 k)).setCell ⟨r, i * 3 + 1, none⟩ (.int .i64 n)).setCell ⟨r, i * 3 + 2, none⟩ (.string s)) g tv (S.set (i : Int) ⟨k, n, s⟩) en v ed bd (.slice (some ⟨r, 0, none⟩) 6 cap) pv ov kv ∧
    W.grownBy (((W.setCell ⟨r, i * 3, none⟩ (.int .i64 k)).setCell ⟨r, i * 3 + 1, none⟩ (.int .i64 n)).setCell ⟨r, i * 3 + 2, none⟩ (.string s)) (some r) := by
  rw [← h6] at h
  have h1 := h.set i (by omega) ⟨k, n, s⟩
  rw [h6] at h1
  exact h1
theorem xg_to {B : Bd} {g r cap : Nat} {w : World} {tv pv ov kv : Value} {S : Ms} {en : Int} {v : V} {ed bd : Bool} {z : Int} (h : Xm B w g tv (S.to z) en v ed bd (.slice (some ⟨r, 0, none⟩) 6 cap) pv ov kv) (h6 : S.rg.length = 6) (i : Nat) (hi : i < 6) :
    w.cell? ⟨r, i * 3, none⟩ = some (.int .i64 (S.at (i : Int)).k) ∧ w.cell? ⟨r, i * 3 + 1, none⟩ = some (.int .i64 (S.at (i : Int)).n) ∧ w.cell? ⟨r, i * 3 + 2, none⟩ = some (.string (S.at (i : Int)).s) ∧ ∀ j, w.frozen? ⟨r, j, none⟩ = false := xg_cells h h6 i hi
theorem xset_done {B : Bd} {g r cap : Nat} {w W : World} {tv pv ov kv : Value} {S : Ms} (h : Xm B W g tv S 0 zV false false (.slice (some ⟨r, 0, none⟩) 6 cap) pv ov kv) (hk : Kp (Bk B) w W) (h6 : S.rg.length = 6) (i : Nat) (hi : i < 6) (x : V) :
    XP B w g tv (.go (S.set (i : Int) x)) (.returned (.tuple #[])) (World.drew (((W.setCell ⟨r, i * 3, none⟩ (.int .i64 x.k)).setCell ⟨r, i * 3 + 1, none⟩ (.int .i64 x.n)).setCell ⟨r, i * 3 + 2, none⟩ (.string x.s))) := by
  have h1 := xset_raw h h6 i hi x.k x.n x.s
  exact ⟨rfl, ⟨_, _, _, _, h1.1.keptN (grown_dr _)⟩, (hk.then (kp_of h1.2 (h.rB r rfl))).then (Kp.drew _ _)⟩
theorem vb_setn {w : World} {b : Nat} {z : V} (h : Vb w b z) (n : Int) : Vb (w.setCell ⟨b, 1, none⟩ (.int .i64 n)) b ⟨z.k, n, z.s⟩ ∧ w.grownBy (w.setCell ⟨b, 1, none⟩ (.int .i64 n)) (some b) :=
  ⟨heap_setCell_same w b 1 _ _ (.int .i64 n) h, ⟨rfl, rfl, rfl, by simp, fun k _ hk => heap_setCell_other w ⟨b, 1, none⟩ k _ (fun e => hk (by simp [e]))⟩⟩
set_option maxHeartbeats 400000 in
theorem xnought_any (w : World) : Calls Tryz.prog 46 #[] w fun e w' => e = .returned (.agg #[.int .i64 1, .int .i64 0, .string ⟨#[]⟩]) ∧ w.grownBy w' none := by
  have hga := World.grownBy_alloc w (.cells #[.int .i64 1, .int .i64 0, .string ⟨#[]⟩] 31) none
  have hV : Vb (w.alloc (.cells #[.int .i64 1, .int .i64 0, .string ⟨#[]⟩] 31)) w.heap.size (nV 0) := Vb.new w (nV 0)
  go_enter Tryz.func46, Tryz.ntmps46
  go_wp2
  refine bodyPost_ret (results_v1 rfl _ w.heap.size _ (nV 0) rfl hV) rfl ?_
  exact ⟨rfl, hga⟩
set_option maxRecDepth 100000 in
set_option maxHeartbeats 1000000 in
theorem xtruth_any (b : Bool) (w : World) : Calls Tryz.prog 45 #[.bool b] w fun e w' => e = .returned (.agg #[.int .i64 (tru b).k, .int .i64 (tru b).n, .string (tru b).s]) ∧ w.grownBy w' none := by
  obtain ⟨p, hp⟩ : ∃ p, w.heap.size = p := ⟨_, rfl⟩
  have hA := World.grownBy_alloc w (.cells #[.int .i64 0, .int .i64 0, .string ⟨#[]⟩] 31) none
  have hV := Vb.new w ⟨0, 0, ⟨#[]⟩⟩
  dsimp only at hV
  rw [hp] at hV
  have hpl : p < (w.alloc (.cells #[.int .i64 0, .int .i64 0, .string ⟨#[]⟩] 31)).heap.size := hV.lt
  go_enter Tryz.func45, Tryz.ntmps45
  go_upto_region 1 with fail
  generalize w.alloc (.cells #[.int .i64 0, .int .i64 0, .string ⟨#[]⟩] 31) = W at *
  go_upto_region 2 with (go_at_call 46; refine (xnought_any _).mono ?_; rintro e w3 ⟨rfl, hg3⟩)
  obtain ⟨q, hq⟩ : ∃ q, w3.heap.size = q := ⟨_, rfl⟩
  have hB := World.grownBy_alloc w3 (.cells #[.int .i64 1, .int .i64 0, .string ⟨#[]⟩] 31) none
  have hR : Vb (w3.alloc (.cells #[.int .i64 1, .int .i64 0, .string ⟨#[]⟩] 31)) q (nV 0) := by rw [← hq]; exact Vb.new w3 (nV 0)
  have hV3 := (hV.kept hg3 (by simp)).kept hB (by simp)
  have hpq : p < q := by have := hg3.size; omega
  have HG := hide (grown_up (grown_up hA hg3) hB)
  rw [hq]
  clear hV hA hg3 hB
  generalize w3.alloc (.cells #[.int .i64 1, .int .i64 0, .string ⟨#[]⟩] 31) = W3 at *
  have r0 := hR.c0
  have r1 := hR.c1
  have r2 := hR.c2
  have rf := hR.fz
  have v0 := hV3.c0
  have v1 := hV3.c1
  have v2 := hV3.c2
  have vf := hV3.fz
  dsimp only [nV] at r0 r1 r2 v0 v1 v2
  cases b with
  | false =>
    have hP := vb_set hV3 (nV 0)
    go_wp2
    refine bodyPost_ret (results_v1 rfl _ p _ (nV 0) rfl hP.1) rfl ?_
    exact ⟨rfl, grown_new HG.out hP.2 (fun j e => by cases e; exact Nat.le_of_eq hp)⟩
  | true =>
    have hS := vb_setn hR 1
    go_upto_region 4 with fail
    have hV4 := hV3.kept hS.2 (by simp; omega)
    have hR4 := hS.1
    have HG4 : Hid (w.grownBy (W3.setCell ⟨q, 1, none⟩ (.int .i64 1)) none) := hide (grown_new HG.out hS.2 (fun j e => by cases e; omega))
    clear r0 r1 r2 v0 v1 v2 rf vf hR hV3 hS HG
    generalize W3.setCell ⟨q, 1, none⟩ (.int .i64 1) = W4 at *
    have r0 := hR4.c0
    have r1 := hR4.c1
    have r2 := hR4.c2
    have v0 := hV4.c0
    have v1 := hV4.c1
    have v2 := hV4.c2
    have vf := hV4.fz
    dsimp only [nV] at r0 r1 r2 v0 v1 v2
    have hP := vb_set hV4 (nV 1)
    go_wp2
    refine bodyPost_ret (results_v1 rfl _ p _ (nV 1) rfl hP.1) rfl ?_
    exact ⟨rfl, grown_new HG4.out hP.2 (fun j e => by cases e; exact Nat.le_of_eq hp)⟩
set_option maxRecDepth 100000 in
set_option maxHeartbeats 1000000 in
theorem xdo_const (B : Bd) (g : Nat) (tv rv pv ov kv : Value) (S : Ms) (x : V) (a : Nat) (la : a < 6) (b c : Int) (w : World) (hM : Xm B w g tv S 0 zV false false rv pv ov kv) (h6 : S.rg.length = 6) (hp0 : 0 ≤ S.pc) (hp1 : S.pc ≤ 1000) :
    Calls Tryz.prog 14 #[.pointer (some ⟨g, 0, none⟩), (⟨1, (a : Int), b, c, x⟩ : In).val] w fun e w' => XP B w g tv (.go ((S.to (S.pc + 1)).set (a : Int) x)) e w' := by
  obtain ⟨r, cap, rfl, hBr, hr, hrg⟩ := xt_cells hM h6
  have hgb := World.grownBy_alloc w (.cells #[.int .i64 1, .int .i64 (a : Int), .int .i64 b, .int .i64 c, .int .i64 x.k, .int .i64 x.n, .string x.s] 44) none
  have hb : Ib (w.alloc (.cells #[.int .i64 1, .int .i64 (a : Int), .int .i64 b, .int .i64 c, .int .i64 x.k, .int .i64 x.n, .string x.s] 44)) w.heap.size ⟨1, (a : Int), b, c, x⟩ := Ib.new w ⟨1, (a : Int), b, c, x⟩
  have hM1 := hM.keptN hgb
  have la' : (a : Int) < 6 := by omega
  unfold In.val
  dsimp only
  go_enter Tryz.func14, Tryz.ntmps14
  go_upto_region 1 with fail
  have HG1 := hide (kp_n (B := B) hgb)
  generalize w.alloc (.cells #[.int .i64 1, .int .i64 (a : Int), .int .i64 b, .int .i64 c, .int .i64 x.k, .int .i64 x.n, .string x.s] 44) = W at *
  have hqg : g < w.heap.size := hM.lt
  generalize hq : w.heap.size = q at *
  have t0 := hM1.tb.c0
  have tf := hM1.tb.fz 0
  have hM2 := hM1.to (S.pc + 1)
  have hb2 := hb.kept hM2.2 (by simp; omega)
  have HG2 := hide (HG1.out.then (kp_of hM2.2 hM1.gB))
  obtain ⟨b0, b1, b2, b3, b4, b5, b6⟩ := hb.cs
  dsimp only at b0 b1 b2 b3 b4 b5 b6
  go_upto_region 2 with fail
  have HM2 := hide hM2.1
  clear t0 tf hM1 hb hM2 b0 b1 b2 b3 b4 b5 b6
  generalize W.setCell ⟨g, 0, none⟩ (.int .i64 (S.pc + 1)) = W2 at *
  obtain ⟨b0, b1, b2, b3, b4, b5, b6⟩ := hb2.cs
  dsimp only at b0 b1 b2 b3 b4 b5 b6
  have hM2 := HM2.out
  have t1 := hM2.tb.c1
  go_upto_region 5 with fail
  obtain ⟨ar0, ar1, ar2, rf⟩ := xg_to hM2 h6 a la
  go_region
  go_wp2
  go_end0
  exact xset_done hM2 HG2.out h6 a la _
set_option maxRecDepth 100000 in
set_option maxHeartbeats 1000000 in
theorem xdo_move (B : Bd) (g : Nat) (tv rv pv ov kv : Value) (S : Ms) (x : V) (a : Nat) (b : Nat) (la : a < 6) (lb : b < 6) (c : Int) (w : World) (hM : Xm B w g tv S 0 zV false false rv pv ov kv) (h6 : S.rg.length = 6) (hp0 : 0 ≤ S.pc) (hp1 : S.pc ≤ 1000) :
    Calls Tryz.prog 14 #[.pointer (some ⟨g, 0, none⟩), (⟨2, (a : Int), (b : Int), c, x⟩ : In).val] w fun e w' => XP B w g tv (.go ((S.to (S.pc + 1)).set (a : Int) (S.at (b : Int)))) e w' := by
  obtain ⟨r, cap, rfl, hBr, hr, hrg⟩ := xt_cells hM h6
  have hgb := World.grownBy_alloc w (.cells #[.int .i64 2, .int .i64 (a : Int), .int .i64 (b : Int), .int .i64 c, .int .i64 x.k, .int .i64 x.n, .string x.s] 44) none
  have hb : Ib (w.alloc (.cells #[.int .i64 2, .int .i64 (a : Int), .int .i64 (b : Int), .int .i64 c, .int .i64 x.k, .int .i64 x.n, .string x.s] 44)) w.heap.size ⟨2, (a : Int), (b : Int), c, x⟩ := Ib.new w ⟨2, (a : Int), (b : Int), c, x⟩
  have hM1 := hM.keptN hgb
  have la' : (a : Int) < 6 := by omega
  have lb' : (b : Int) < 6 := by omega
  unfold In.val
  dsimp only
  go_enter Tryz.func14, Tryz.ntmps14
  go_upto_region 1 with fail
  have HG1 := hide (kp_n (B := B) hgb)
  generalize w.alloc (.cells #[.int .i64 2, .int .i64 (a : Int), .int .i64 (b : Int), .int .i64 c, .int .i64 x.k, .int .i64 x.n, .string x.s] 44) = W at *
  have hqg : g < w.heap.size := hM.lt
  generalize hq : w.heap.size = q at *
  have t0 := hM1.tb.c0
  have tf := hM1.tb.fz 0
  have hM2 := hM1.to (S.pc + 1)
  have hb2 := hb.kept hM2.2 (by simp; omega)
  have HG2 := hide (HG1.out.then (kp_of hM2.2 hM1.gB))
  obtain ⟨b0, b1, b2, b3, b4, b5, b6⟩ := hb.cs
  dsimp only at b0 b1 b2 b3 b4 b5 b6
  go_upto_region 2 with fail
  have HM2 := hide hM2.1
  clear t0 tf hM1 hb hM2 b0 b1 b2 b3 b4 b5 b6
  generalize W.setCell ⟨g, 0, none⟩ (.int .i64 (S.pc + 1)) = W2 at *
  obtain ⟨b0, b1, b2, b3, b4, b5, b6⟩ := hb2.cs
  dsimp only at b0 b1 b2 b3 b4 b5 b6
  have hM2 := HM2.out
  have t1 := hM2.tb.c1
  go_upto_region 7 with fail
  obtain ⟨ar0, ar1, ar2, rf⟩ := xg_to hM2 h6 a la
  obtain ⟨br0, br1, br2, rf⟩ := xg_to hM2 h6 b lb
  go_region
  go_wp2
  go_end0
  exact xset_done hM2 HG2.out h6 a la _
set_option maxRecDepth 100000 in
set_option maxHeartbeats 1000000 in
theorem xdo_jump (B : Bd) (g : Nat) (tv rv pv ov kv : Value) (S : Ms) (x : V) (a b c : Int) (w : World) (hM : Xm B w g tv S 0 zV false false rv pv ov kv) (h6 : S.rg.length = 6) (hp0 : 0 ≤ S.pc) (hp1 : S.pc ≤ 1000) :
    Calls Tryz.prog 14 #[.pointer (some ⟨g, 0, none⟩), (⟨9, a, b, c, x⟩ : In).val] w fun e w' => XP B w g tv (.go (S.to a)) e w' := by
  obtain ⟨r, cap, rfl, hBr, hr, hrg⟩ := xt_cells hM h6
  have hgb := World.grownBy_alloc w (.cells #[.int .i64 9, .int .i64 a, .int .i64 b, .int .i64 c, .int .i64 x.k, .int .i64 x.n, .string x.s] 44) none
  have hb : Ib (w.alloc (.cells #[.int .i64 9, .int .i64 a, .int .i64 b, .int .i64 c, .int .i64 x.k, .int .i64 x.n, .string x.s] 44)) w.heap.size ⟨9, a, b, c, x⟩ := Ib.new w ⟨9, a, b, c, x⟩
  have hM1 := hM.keptN hgb
  unfold In.val
  dsimp only
  go_enter Tryz.func14, Tryz.ntmps14
  go_upto_region 1 with fail
  have HG1 := hide (kp_n (B := B) hgb)
  generalize w.alloc (.cells #[.int .i64 9, .int .i64 a, .int .i64 b, .int .i64 c, .int .i64 x.k, .int .i64 x.n, .string x.s] 44) = W at *
  have hqg : g < w.heap.size := hM.lt
  generalize hq : w.heap.size = q at *
  have t0 := hM1.tb.c0
  have tf := hM1.tb.fz 0
  have hM2 := hM1.to (S.pc + 1)
  have hb2 := hb.kept hM2.2 (by simp; omega)
  have HG2 := hide (HG1.out.then (kp_of hM2.2 hM1.gB))
  obtain ⟨b0, b1, b2, b3, b4, b5, b6⟩ := hb.cs
  dsimp only at b0 b1 b2 b3 b4 b5 b6
  go_upto_region 2 with fail
  have HM2 := hide hM2.1
  clear t0 tf hM1 hb hM2 b0 b1 b2 b3 b4 b5 b6
  generalize W.setCell ⟨g, 0, none⟩ (.int .i64 (S.pc + 1)) = W2 at *
  obtain ⟨b0, b1, b2, b3, b4, b5, b6⟩ := hb2.cs
  dsimp only at b0 b1 b2 b3 b4 b5 b6
  have hM2 := HM2.out
  have t1 := hM2.tb.c1
  go_upto_region 20 with fail
  have t0 := hM2.tb.c0
  have tf := hM2.tb.fz 0
  have hM3 := hM2.to a
  have HG3 := hide (HG2.out.then (kp_of hM3.2 hM2.gB))
  go_wp2
  go_end0
  exact ⟨rfl, ⟨_, _, _, _, hM3.1⟩, HG3.out⟩
set_option maxRecDepth 100000 in
set_option maxHeartbeats 1000000 in
theorem xdo_unless (B : Bd) (g : Nat) (tv rv pv ov kv : Value) (S : Ms) (x : V) (b : Nat) (lb : b < 6) (a c : Int) (w : World) (hM : Xm B w g tv S 0 zV false false rv pv ov kv) (h6 : S.rg.length = 6) (hp0 : 0 ≤ S.pc) (hp1 : S.pc ≤ 1000) :
    Calls Tryz.prog 14 #[.pointer (some ⟨g, 0, none⟩), (⟨10, a, (b : Int), c, x⟩ : In).val] w fun e w' => XP B w g tv (.go (if eqV (S.at (b : Int)) (nV 0) then (S.to (S.pc + 1)).to a else S.to (S.pc + 1))) e w' := by
  obtain ⟨r, cap, rfl, hBr, hr, hrg⟩ := xt_cells hM h6
  have hgb := World.grownBy_alloc w (.cells #[.int .i64 10, .int .i64 a, .int .i64 (b : Int), .int .i64 c, .int .i64 x.k, .int .i64 x.n, .string x.s] 44) none
  have hb : Ib (w.alloc (.cells #[.int .i64 10, .int .i64 a, .int .i64 (b : Int), .int .i64 c, .int .i64 x.k, .int .i64 x.n, .string x.s] 44)) w.heap.size ⟨10, a, (b : Int), c, x⟩ := Ib.new w ⟨10, a, (b : Int), c, x⟩
  have hM1 := hM.keptN hgb
  have lb' : (b : Int) < 6 := by omega
  obtain ⟨y, HY⟩ : ∃ y, Hid (eqV (S.at (b : Int)) (nV 0) = y) := ⟨_, rfl⟩
  rw [HY.out]
  unfold In.val
  dsimp only
  go_enter Tryz.func14, Tryz.ntmps14
  go_upto_region 1 with fail
  have HG1 := hide (kp_n (B := B) hgb)
  generalize w.alloc (.cells #[.int .i64 10, .int .i64 a, .int .i64 (b : Int), .int .i64 c, .int .i64 x.k, .int .i64 x.n, .string x.s] 44) = W at *
  have hqg : g < w.heap.size := hM.lt
  generalize hq : w.heap.size = q at *
  have t0 := hM1.tb.c0
  have tf := hM1.tb.fz 0
  have hM2 := hM1.to (S.pc + 1)
  have hb2 := hb.kept hM2.2 (by simp; omega)
  have HG2 := hide (HG1.out.then (kp_of hM2.2 hM1.gB))
  obtain ⟨b0, b1, b2, b3, b4, b5, b6⟩ := hb.cs
  dsimp only at b0 b1 b2 b3 b4 b5 b6
  go_upto_region 2 with fail
  have HM2 := hide hM2.1
  clear t0 tf hM1 hb hM2 b0 b1 b2 b3 b4 b5 b6
  generalize W.setCell ⟨g, 0, none⟩ (.int .i64 (S.pc + 1)) = W2 at *
  obtain ⟨b0, b1, b2, b3, b4, b5, b6⟩ := hb2.cs
  dsimp only at b0 b1 b2 b3 b4 b5 b6
  have hM2 := HM2.out
  have t1 := hM2.tb.c1
  go_upto_region 22 with fail
  have heq : ∀ W0 : World, (binOp .eql 31 (.agg #[.int .i64 (S.at (b : Int)).k, .int .i64 (S.at (b : Int)).n, .string (S.at (b : Int)).s]) (.agg #[.int .i64 1, .int .i64 0, .string ⟨#[]⟩])).run Tryz.prog W0 = .ok (.bool (eqV (S.at (b : Int)) (nV 0))) W0 := fun W0 => run_eqV _ _ _ _ _ _ W0
  obtain ⟨br0, br1, br2, rf⟩ := xg_to hM2 h6 b lb
  have Ht1 := fun (w' : World) (h : W2.grownBy w' none) => cell_g t1 h
  have Hb1 := fun (w' : World) (h : W2.grownBy w' none) => cell_g b1 h
  have Hb2 := fun (w' : World) (h : W2.grownBy w' none) => cell_g b2 h
  have Hbr0 := fun (w' : World) (h : W2.grownBy w' none) => cell_g br0 h
  have Hbr1 := fun (w' : World) (h : W2.grownBy w' none) => cell_g br1 h
  have Hbr2 := fun (w' : World) (h : W2.grownBy w' none) => cell_g br2 h
  have dr := grown_dr W2
  rw [HY.out] at heq
  go_region_held_law (fun w' => W2.grownBy w' none) (first | assumption | exact dr) (first | (go_at_call 46; refine (xnought_any _).mono ?_; rintro e w3 ⟨rfl, hg3⟩; have S3 : W2.grownBy w3 none := by first | exact grown_up dr hg3 | exact hg3))
  have hM4 := hM2.keptN S3
  have hb4 := hb2.kept S3 (by simp)
  have HG4 := hide (HG2.out.then (kp_n S3))
  clear Ht1 Hb1 Hb2 Hbr0 Hbr1 Hbr2 heq HY dr t1 b0 b1 b2 b3 b4 b5 b6 br0 br1 br2 hM2 hb2
  cases y with
  | false =>
    go_wp2
    go_end0
    exact ⟨rfl, ⟨_, _, _, _, hM4⟩, HG4.out⟩
  | true =>
    have b1 := hb4.cs.2.1
    dsimp only at b1
    have t0 := hM4.tb.c0
    have tf := hM4.tb.fz 0
    have hM5 := hM4.to a
    have HG5 := hide (HG4.out.then (kp_of hM5.2 hM4.gB))
    go_wp2
    go_end0
    exact ⟨rfl, ⟨_, _, _, _, hM5.1⟩, HG5.out⟩

end Go.Proofs.YtpoahegccjgnjaaGreatDoor

namespace Go.Proofs.YtpoahegccjgnjaaGreatDoor
open Go Go.RowKit
set_option linter.unusedVariables false

set_option maxRecDepth 100000 in
set_option maxHeartbeats 1000000 in
theorem xdo_same (B : Bd) (g : Nat) (tv rv pv ov kv : Value) (S : Ms) (x : V) (a : Nat) (b : Nat) (c : Nat) (la : a < 6) (lb : b < 6) (lc : c < 6) (w : World) (hM : Xm B w g tv S 0 zV false false rv pv ov kv) (h6 : S.rg.length = 6) (hp0 : 0 ≤ S.pc) (hp1 : S.pc ≤ 1000) :
    Calls Tryz.prog 14 #[.pointer (some ⟨g, 0, none⟩), (⟨8, (a : Int), (b : Int), (c : Int), x⟩ : In).val] w fun e w' => XP B w g tv (.go ((S.to (S.pc + 1)).set (a : Int) (tru (eqV (S.at (b : Int)) (S.at (c : Int)))))) e w' := by
  obtain ⟨r, cap, rfl, hBr, hr, hrg⟩ := xt_cells hM h6
  have hgb := World.grownBy_alloc w (.cells #[.int .i64 8, .int .i64 (a : Int), .int .i64 (b : Int), .int .i64 (c : Int), .int .i64 x.k, .int .i64 x.n, .string x.s] 44) none
  have hb : Ib (w.alloc (.cells #[.int .i64 8, .int .i64 (a : Int), .int .i64 (b : Int), .int .i64 (c : Int), .int .i64 x.k, .int .i64 x.n, .string x.s] 44)) w.heap.size ⟨8, (a : Int), (b : Int), (c : Int), x⟩ := Ib.new w ⟨8, (a : Int), (b : Int), (c : Int), x⟩
  have hM1 := hM.keptN hgb
  have la' : (a : Int) < 6 := by omega
  have lb' : (b : Int) < 6 := by omega
  have lc' : (c : Int) < 6 := by omega
  obtain ⟨y, HY⟩ : ∃ y, Hid (eqV (S.at (b : Int)) (S.at (c : Int)) = y) := ⟨_, rfl⟩
  rw [HY.out]
  unfold In.val
  dsimp only
  go_enter Tryz.func14, Tryz.ntmps14
  go_upto_region 1 with fail
  have HG1 := hide (kp_n (B := B) hgb)
  generalize w.alloc (.cells #[.int .i64 8, .int .i64 (a : Int), .int .i64 (b : Int), .int .i64 (c : Int), .int .i64 x.k, .int .i64 x.n, .string x.s] 44) = W at *
  have hqg : g < w.heap.size := hM.lt
  generalize hq : w.heap.size = q at *
  have t0 := hM1.tb.c0
  have tf := hM1.tb.fz 0
  have hM2 := hM1.to (S.pc + 1)
  have hb2 := hb.kept hM2.2 (by simp; omega)
  have HG2 := hide (HG1.out.then (kp_of hM2.2 hM1.gB))
  obtain ⟨b0, b1, b2, b3, b4, b5, b6⟩ := hb.cs
  dsimp only at b0 b1 b2 b3 b4 b5 b6
  go_upto_region 2 with fail
  have HM2 := hide hM2.1
  clear t0 tf hM1 hb hM2 b0 b1 b2 b3 b4 b5 b6
  generalize W.setCell ⟨g, 0, none⟩ (.int .i64 (S.pc + 1)) = W2 at *
  obtain ⟨b0, b1, b2, b3, b4, b5, b6⟩ := hb2.cs
  dsimp only at b0 b1 b2 b3 b4 b5 b6
  have hM2 := HM2.out
  have t1 := hM2.tb.c1
  go_upto_region 18 with fail
  have heq : ∀ W0 : World, (binOp .eql 31 (.agg #[.int .i64 (S.at (b : Int)).k, .int .i64 (S.at (b : Int)).n, .string (S.at (b : Int)).s]) (.agg #[.int .i64 (S.at (c : Int)).k, .int .i64 (S.at (c : Int)).n, .string (S.at (c : Int)).s])).run Tryz.prog W0 = .ok (.bool (eqV (S.at (b : Int)) (S.at (c : Int)))) W0 := fun W0 => run_eqV _ _ _ _ _ _ W0
  rw [HY.out] at heq
  obtain ⟨ar0, ar1, ar2, rf⟩ := xg_to hM2 h6 a la
  obtain ⟨br0, br1, br2, rf⟩ := xg_to hM2 h6 b lb
  obtain ⟨cr0, cr1, cr2, rf⟩ := xg_to hM2 h6 c lc
  have dr := grown_dr W2
  have ng : ¬ only r g := fun e => hrg e.symm
  have nq : ¬ only r q := fun e => by unfold only at e; omega
  refine wp_region_held_drew (S := fun W0 => Kp (only r) W2 W0) (by kernel_rfl) (Kp.drew _ _) (fun hHeld => ?_)
  refine take_at (i := 0) (d := 90) (v := ?_) rfl rfl (by kernel_rfl) (by kernel_rfl) (by kernel_rfl) (fun _ _ _ h => h) (Or.inl ⟨by rfl, ?_⟩) (by assumption) ?_
  rotate_left
  · intro W hSW
    try dsimp only at hSW
    have g0 := hSW.cell t1 ng
    have g1 := hSW.cell b1 nq
    have g2 := hSW.cell b2 nq
    have g3 := hSW.cell b3 nq
    go_simp
    try with_reducible rfl
  try simp only [Act.put, List.setIfInBounds_toArray, List.set_cons_zero, List.set_cons_succ]
  refine take_at (i := 1) (d := 91) (v := ?_) rfl rfl (by kernel_rfl) (by kernel_rfl) (by kernel_rfl) (fun _ _ _ h => h) (Or.inl ⟨by rfl, ?_⟩) (by assumption) ?_
  rotate_left
  · intro W hSW
    try dsimp only at hSW
    have g0 := hSW.cell t1 ng
    have g1 := hSW.cell b1 nq
    have g2 := hSW.cell b2 nq
    have g3 := hSW.cell b3 nq
    go_simp
    try with_reducible rfl
  try simp only [Act.put, List.setIfInBounds_toArray, List.set_cons_zero, List.set_cons_succ]
  refine take_at (i := 2) (d := 92) (v := ?_) rfl rfl (by kernel_rfl) (by kernel_rfl) (by kernel_rfl) (fun _ _ _ h => h) (Or.inl ⟨by rfl, ?_⟩) (by assumption) ?_
  rotate_left
  · intro W hSW
    try dsimp only at hSW
    have g0 := hSW.cell t1 ng
    have g1 := hSW.cell b1 nq
    have g2 := hSW.cell b2 nq
    have g3 := hSW.cell b3 nq
    go_simp
    try with_reducible rfl
  try simp only [Act.put, List.setIfInBounds_toArray, List.set_cons_zero, List.set_cons_succ]
  refine take_at (i := 3) (d := 93) (v := ?_) rfl rfl (by kernel_rfl) (by kernel_rfl) (by kernel_rfl) (fun _ _ _ h => h) (Or.inl ⟨by rfl, ?_⟩) (by assumption) ?_
  rotate_left
  · intro W hSW
    try dsimp only at hSW
    have g0 := hSW.cell t1 ng
    have g1 := hSW.cell b1 nq
    have g2 := hSW.cell b2 nq
    have g3 := hSW.cell b3 nq
    go_simp
    try with_reducible rfl
  try simp only [Act.put, List.setIfInBounds_toArray, List.set_cons_zero, List.set_cons_succ]
  refine take_at (i := 4) (d := 94) (v := ?_) rfl rfl (by kernel_rfl) (by kernel_rfl) (by kernel_rfl) (fun _ _ _ h => h) (Or.inl ⟨by rfl, ?_⟩) (by assumption) ?_
  rotate_left
  · intro W hSW
    try dsimp only at hSW
    have g0 := hSW.cell t1 ng
    have g1 := hSW.cell b1 nq
    have g2 := hSW.cell b2 nq
    have g3 := hSW.cell b3 nq
    go_simp
    try with_reducible rfl
  try simp only [Act.put, List.setIfInBounds_toArray, List.set_cons_zero, List.set_cons_succ]
  refine take_at (i := 5) (d := 95) (v := ?_) rfl rfl (by kernel_rfl) (by kernel_rfl) (by kernel_rfl) (fun _ _ _ h => h) (Or.inl ⟨by rfl, ?_⟩) (by assumption) ?_
  rotate_left
  · intro W hSW
    try dsimp only at hSW
    have g0 := hSW.cell t1 ng
    have g1 := hSW.cell b1 nq
    have g2 := hSW.cell b2 nq
    have g3 := hSW.cell b3 nq
    go_simp
    try with_reducible rfl
  try simp only [Act.put, List.setIfInBounds_toArray, List.set_cons_zero, List.set_cons_succ]
  refine take_at (i := 6) (d := 96) (v := ?_) rfl rfl (by kernel_rfl) (by kernel_rfl) (by kernel_rfl) (fun _ _ _ h => h) (Or.inl ⟨by rfl, ?_⟩) (by assumption) ?_
  rotate_left
  · intro W hSW
    try dsimp only at hSW
    have g0 := hSW.cell t1 ng
    have g1 := hSW.cell b1 nq
    have g2 := hSW.cell b2 nq
    have g3 := hSW.cell b3 nq
    go_simp
    try with_reducible rfl
  try simp only [Act.put, List.setIfInBounds_toArray, List.set_cons_zero, List.set_cons_succ]
  refine take_at (i := 7) (d := 97) (v := ?_) rfl rfl (by kernel_rfl) (by kernel_rfl) (by kernel_rfl) (fun _ _ _ h => h) (Or.inl ⟨by rfl, ?_⟩) (by assumption) ?_
  rotate_left
  · intro W hSW
    try dsimp only at hSW
    have g0 := hSW.cell t1 ng
    have g1 := hSW.cell b1 nq
    have g2 := hSW.cell b2 nq
    have g3 := hSW.cell b3 nq
    go_simp
    try with_reducible rfl
  try simp only [Act.put, List.setIfInBounds_toArray, List.set_cons_zero, List.set_cons_succ]
  refine take_at (i := 8) (d := 98) (v := ?_) rfl rfl (by kernel_rfl) (by kernel_rfl) (by kernel_rfl) (fun _ _ _ h => h) (Or.inl ⟨by rfl, ?_⟩) (by assumption) ?_
  rotate_left
  · intro W hSW
    try dsimp only at hSW
    have g0 := hSW.cell t1 ng
    have g1 := hSW.cell b1 nq
    have g2 := hSW.cell b2 nq
    have g3 := hSW.cell b3 nq
    go_simp
    try with_reducible rfl
  try simp only [Act.put, List.setIfInBounds_toArray, List.set_cons_zero, List.set_cons_succ]
  refine take_at (i := 9) (d := 99) (v := ?_) rfl rfl (by kernel_rfl) (by kernel_rfl) (by kernel_rfl) (fun _ _ _ h => h) (Or.inl ⟨by rfl, ?_⟩) (by assumption) ?_
  rotate_left
  · intro W hSW
    try dsimp only at hSW
    have g0 := hSW.cell t1 ng
    have g1 := hSW.cell b1 nq
    have g2 := hSW.cell b2 nq
    have g3 := hSW.cell b3 nq
    go_simp
    try with_reducible rfl
  try simp only [Act.put, List.setIfInBounds_toArray, List.set_cons_zero, List.set_cons_succ]
  refine take_at (i := 10) (d := 100) (v := ?_) rfl rfl (by kernel_rfl) (by kernel_rfl) (by kernel_rfl) (fun _ _ _ h => h) (Or.inl ⟨by rfl, ?_⟩) (by assumption) ?_
  rotate_left
  · intro W hSW
    try dsimp only at hSW
    have g0 := hSW.cell t1 ng
    have g1 := hSW.cell b1 nq
    have g2 := hSW.cell b2 nq
    have g3 := hSW.cell b3 nq
    go_simp
    try with_reducible rfl
  try simp only [Act.put, List.setIfInBounds_toArray, List.set_cons_zero, List.set_cons_succ]
  refine take_at (i := 11) (d := 101) (v := ?_) rfl rfl (by kernel_rfl) (by kernel_rfl) (by kernel_rfl) (fun _ _ _ h => h) (Or.inl ⟨by rfl, ?_⟩) (by assumption) ?_
  rotate_left
  · intro W hSW
    try dsimp only at hSW
    have g0 := hSW.cell t1 ng
    have g1 := hSW.cell b1 nq
    have g2 := hSW.cell b2 nq
    have g3 := hSW.cell b3 nq
    go_simp
    try with_reducible rfl
  try simp only [Act.put, List.setIfInBounds_toArray, List.set_cons_zero, List.set_cons_succ]
  refine take_at (i := 12) (d := 102) (v := ?_) rfl rfl (by kernel_rfl) (by kernel_rfl) (by kernel_rfl) (fun _ _ _ h => h) (Or.inl ⟨by rfl, ?_⟩) (by assumption) ?_
  rotate_left
  · intro W hSW
    try dsimp only at hSW
    have g0 := hSW.cell t1 ng
    have g1 := hSW.cell b1 nq
    have g2 := hSW.cell b2 nq
    have g3 := hSW.cell b3 nq
    go_simp
    try with_reducible rfl
  try simp only [Act.put, List.setIfInBounds_toArray, List.set_cons_zero, List.set_cons_succ]
  refine take_at (i := 14) (d := 104) (v := ?_) rfl rfl (by kernel_rfl) (by kernel_rfl) (by kernel_rfl) (fun _ _ _ h => h) (Or.inl ⟨by rfl, ?_⟩) (by assumption) ?_
  rotate_left
  · intro W hSW
    try dsimp only at hSW
    have g0 := hSW.cell t1 ng
    have g1 := hSW.cell b1 nq
    have g2 := hSW.cell b2 nq
    have g3 := hSW.cell b3 nq
    go_simp
    try with_reducible rfl
  try simp only [Act.put, List.setIfInBounds_toArray, List.set_cons_zero, List.set_cons_succ]
  refine take_at (i := 15) (d := 105) (v := ?_) rfl rfl (by kernel_rfl) (by kernel_rfl) (by kernel_rfl) (fun _ _ _ h => h) (Or.inl ⟨by rfl, ?_⟩) (by assumption) ?_
  rotate_left
  · intro W hSW
    try dsimp only at hSW
    have g0 := hSW.cell t1 ng
    have g1 := hSW.cell b1 nq
    have g2 := hSW.cell b2 nq
    have g3 := hSW.cell b3 nq
    go_simp
    try with_reducible rfl
  try simp only [Act.put, List.setIfInBounds_toArray, List.set_cons_zero, List.set_cons_succ]
  refine take_at (i := 16) (d := 106) (v := ?_) rfl rfl (by kernel_rfl) (by kernel_rfl) (by kernel_rfl) (fun _ _ _ h => h) (Or.inl ⟨by rfl, ?_⟩) (by assumption) ?_
  rotate_left
  · intro W hSW
    try dsimp only at hSW
    have g0 := hSW.cell t1 ng
    have g1 := hSW.cell b1 nq
    have g2 := hSW.cell b2 nq
    have g3 := hSW.cell b3 nq
    go_simp
    try with_reducible rfl
  try simp only [Act.put, List.setIfInBounds_toArray, List.set_cons_zero, List.set_cons_succ]
  refine take_at (i := 17) (d := 107) (v := ?_) rfl rfl (by kernel_rfl) (by kernel_rfl) (by kernel_rfl) (fun _ _ _ h => h) (Or.inl ⟨by rfl, ?_⟩) (by assumption) ?_
  rotate_left
  · intro W hSW
    try dsimp only at hSW
    have g0 := hSW.cell t1 ng
    have g1 := hSW.cell b1 nq
    have g2 := hSW.cell b2 nq
    have g3 := hSW.cell b3 nq
    go_simp
    try with_reducible rfl
  try simp only [Act.put, List.setIfInBounds_toArray, List.set_cons_zero, List.set_cons_succ]
  refine take_at (i := 18) (d := 108) (v := ?_) rfl rfl (by kernel_rfl) (by kernel_rfl) (by kernel_rfl) (fun _ _ _ h => h) (Or.inl ⟨by rfl, ?_⟩) (by assumption) ?_
  rotate_left
  · intro W hSW
    try dsimp only at hSW
    have g0 := hSW.cell t1 ng
    have g1 := hSW.cell b1 nq
    have g2 := hSW.cell b2 nq
    have g3 := hSW.cell b3 nq
    go_simp
    try with_reducible rfl
  try simp only [Act.put, List.setIfInBounds_toArray, List.set_cons_zero, List.set_cons_succ]
  refine take_at (i := 19) (d := 109) (v := ?_) rfl rfl (by kernel_rfl) (by kernel_rfl) (by kernel_rfl) (fun _ _ _ h => h) (Or.inl ⟨by rfl, ?_⟩) (by assumption) ?_
  rotate_left
  · intro W hSW
    try dsimp only at hSW
    have g0 := hSW.cell t1 ng
    have g1 := hSW.cell b1 nq
    have g2 := hSW.cell b2 nq
    have g3 := hSW.cell b3 nq
    go_simp
    try with_reducible rfl
  try simp only [Act.put, List.setIfInBounds_toArray, List.set_cons_zero, List.set_cons_succ]
  refine take_at (i := 20) (d := 110) (v := ?_) rfl rfl (by kernel_rfl) (by kernel_rfl) (by kernel_rfl) (fun _ _ _ h => h) (Or.inl ⟨by rfl, ?_⟩) (by assumption) ?_
  rotate_left
  · intro W hSW
    try dsimp only at hSW
    have g0 := hSW.cell t1 ng
    have g1 := hSW.cell b1 nq
    have g2 := hSW.cell b2 nq
    have g3 := hSW.cell b3 nq
    go_simp
    try with_reducible rfl
  try simp only [Act.put, List.setIfInBounds_toArray, List.set_cons_zero, List.set_cons_succ]
  refine wpAnyH_ready (rs := [13, 21]) (by kernel_rfl) (by simp) ?_
  refine AllReadyH.cons rfl (fun K hK => ?_) ?_
  · go_simp
    refine hK.out _ _ (Kp.drew _ _) (fun hHeld => ?_)
    clear hK K
    try simp only [Act.put, List.setIfInBounds_toArray, List.set_cons_zero, List.set_cons_succ]
    refine wpAnyH_ready (rs := [21]) (by kernel_rfl) (by simp) ?_
    refine AllReadyH.cons rfl (fun K hK => ?_) ?_
    · go_simp
      refine hK.out _ _ (Kp.drew _ _) (fun hHeld => ?_)
      clear hK K
      try simp only [Act.put, List.setIfInBounds_toArray, List.set_cons_zero, List.set_cons_succ]
      refine take_at (i := 22) (d := 112) (v := ?_) rfl rfl (by kernel_rfl) (by kernel_rfl) (by kernel_rfl) (fun _ _ _ h => h) (Or.inl ⟨by rfl, ?_⟩) (by assumption) ?_
      rotate_left
      · intro W hSW
        try dsimp only at hSW
        go_simp
        try with_reducible rfl
      try simp only [Act.put, List.setIfInBounds_toArray, List.set_cons_zero, List.set_cons_succ]
      refine wpAnyH_ready (rs := [23]) (by kernel_rfl) (by simp) ?_
      refine AllReadyH.cons rfl (fun K hK => ?_) ?_
      · go_simp
        go_wp2_with (go_at_call 45; refine (xtruth_any _ _).mono ?_; rintro e y3 ⟨rfl, g3⟩)
        have G3 := grown_up dr g3
        have hM3 := hM2.keptN G3
        obtain ⟨ar0, ar1, ar2, rf⟩ := xg_to hM3 h6 a la
        refine hK.out _ _ (Kp.ofN G3 _) (fun hHeld => ?_)
        clear hK K
        try simp only [Act.put, List.setIfInBounds_toArray, List.set_cons_zero, List.set_cons_succ]
        refine take_at (i := 24) (d := 114) (v := ?_) rfl rfl (by kernel_rfl) (by kernel_rfl) (by kernel_rfl) (fun _ _ _ h => h) (Or.inl ⟨by rfl, ?_⟩) (by assumption) ?_
        rotate_left
        · intro W hSW
          try dsimp only at hSW
          go_simp
          try with_reducible rfl
        try simp only [Act.put, List.setIfInBounds_toArray, List.set_cons_zero, List.set_cons_succ]
        refine wpAnyH_ready (rs := [25]) (by kernel_rfl) (by simp) ?_
        refine AllReadyH.cons rfl (fun K hK => ?_) ?_
        · have hP := xset_raw hM3 h6 a la (tru (y)).k (tru (y)).n (tru (y)).s
          go_simp
          refine hK.out _ _ ((Kp.ofN G3 _).then (Kp.ofGrown hP.2 (S := only r) (fun k e _ => by cases e; rfl))) (fun hHeld => ?_)
          clear hK K
          try simp only [Act.put, List.setIfInBounds_toArray, List.set_cons_zero, List.set_cons_succ]
          refine wpAnyH_done (by kernel_rfl) ?_ _
          go_wp2
          go_end0
          exact ⟨rfl, ⟨_, _, _, _, hP.1⟩, (HG2.out.then (kp_n G3)).then (kp_of hP.2 hBr)⟩
        exact AllReadyH.nil
      exact AllReadyH.nil
    exact AllReadyH.nil
  refine AllReadyH.cons rfl (fun K hK => ?_) ?_
  · go_simp
    refine hK.out _ _ (Kp.drew _ _) (fun hHeld => ?_)
    clear hK K
    try simp only [Act.put, List.setIfInBounds_toArray, List.set_cons_zero, List.set_cons_succ]
    refine wpAnyH_ready (rs := [13]) (by kernel_rfl) (by simp) ?_
    refine AllReadyH.cons rfl (fun K hK => ?_) ?_
    · go_simp
      refine hK.out _ _ (Kp.drew _ _) (fun hHeld => ?_)
      clear hK K
      try simp only [Act.put, List.setIfInBounds_toArray, List.set_cons_zero, List.set_cons_succ]
      refine take_at (i := 22) (d := 112) (v := ?_) rfl rfl (by kernel_rfl) (by kernel_rfl) (by kernel_rfl) (fun _ _ _ h => h) (Or.inl ⟨by rfl, ?_⟩) (by assumption) ?_
      rotate_left
      · intro W hSW
        try dsimp only at hSW
        go_simp
        try with_reducible rfl
      try simp only [Act.put, List.setIfInBounds_toArray, List.set_cons_zero, List.set_cons_succ]
      refine wpAnyH_ready (rs := [23]) (by kernel_rfl) (by simp) ?_
      refine AllReadyH.cons rfl (fun K hK => ?_) ?_
      · go_simp
        go_wp2_with (go_at_call 45; refine (xtruth_any _ _).mono ?_; rintro e y3 ⟨rfl, g3⟩)
        have G3 := grown_up dr g3
        have hM3 := hM2.keptN G3
        obtain ⟨ar0, ar1, ar2, rf⟩ := xg_to hM3 h6 a la
        refine hK.out _ _ (Kp.ofN G3 _) (fun hHeld => ?_)
        clear hK K
        try simp only [Act.put, List.setIfInBounds_toArray, List.set_cons_zero, List.set_cons_succ]
        refine take_at (i := 24) (d := 114) (v := ?_) rfl rfl (by kernel_rfl) (by kernel_rfl) (by kernel_rfl) (fun _ _ _ h => h) (Or.inl ⟨by rfl, ?_⟩) (by assumption) ?_
        rotate_left
        · intro W hSW
          try dsimp only at hSW
          go_simp
          try with_reducible rfl
        try simp only [Act.put, List.setIfInBounds_toArray, List.set_cons_zero, List.set_cons_succ]
        refine wpAnyH_ready (rs := [25]) (by kernel_rfl) (by simp) ?_
        refine AllReadyH.cons rfl (fun K hK => ?_) ?_
        · have hP := xset_raw hM3 h6 a la (tru (y)).k (tru (y)).n (tru (y)).s
          go_simp
          refine hK.out _ _ ((Kp.ofN G3 _).then (Kp.ofGrown hP.2 (S := only r) (fun k e _ => by cases e; rfl))) (fun hHeld => ?_)
          clear hK K
          try simp only [Act.put, List.setIfInBounds_toArray, List.set_cons_zero, List.set_cons_succ]
          refine wpAnyH_done (by kernel_rfl) ?_ _
          go_wp2
          go_end0
          exact ⟨rfl, ⟨_, _, _, _, hP.1⟩, (HG2.out.then (kp_n G3)).then (kp_of hP.2 hBr)⟩
        exact AllReadyH.nil
      exact AllReadyH.nil
    exact AllReadyH.nil
  exact AllReadyH.nil

end Go.Proofs.YtpoahegccjgnjaaGreatDoor

namespace Go.Proofs.YtpoahegccjgnjaaGreatDoor
open Go Go.RowKit
set_option linter.unusedVariables false

set_option maxRecDepth 100000 in
set_option maxHeartbeats 1000000 in
theorem xdo_less (B : Bd) (g : Nat) (tv rv pv ov kv : Value) (S : Ms) (x : V) (a : Nat) (b : Nat) (c : Nat) (la : a < 6) (lb : b < 6) (lc : c < 6) (w : World) (hM : Xm B w g tv S 0 zV false false rv pv ov kv) (h6 : S.rg.length = 6) (hp0 : 0 ≤ S.pc) (hp1 : S.pc ≤ 1000) (hwb : (S.at (b : Int)).wf) (hwc : (S.at (c : Int)).wf) :
    Calls Tryz.prog 14 #[.pointer (some ⟨g, 0, none⟩), (⟨7, (a : Int), (b : Int), (c : Int), x⟩ : In).val] w fun e w' => XP B w g tv (.go ((S.to (S.pc + 1)).set (a : Int) (tru (decide (cmpV (S.at (b : Int)) (S.at (c : Int)) < 0))))) e w' := by
  obtain ⟨r, cap, rfl, hBr, hr, hrg⟩ := xt_cells hM h6
  have hgb := World.grownBy_alloc w (.cells #[.int .i64 7, .int .i64 (a : Int), .int .i64 (b : Int), .int .i64 (c : Int), .int .i64 x.k, .int .i64 x.n, .string x.s] 44) none
  have hb : Ib (w.alloc (.cells #[.int .i64 7, .int .i64 (a : Int), .int .i64 (b : Int), .int .i64 (c : Int), .int .i64 x.k, .int .i64 x.n, .string x.s] 44)) w.heap.size ⟨7, (a : Int), (b : Int), (c : Int), x⟩ := Ib.new w ⟨7, (a : Int), (b : Int), (c : Int), x⟩
  have hM1 := hM.keptN hgb
  have la' : (a : Int) < 6 := by omega
  have lb' : (b : Int) < 6 := by omega
  have lc' : (c : Int) < 6 := by omega
  obtain ⟨z, HZ⟩ : ∃ z, Hid (cmpV (S.at (b : Int)) (S.at (c : Int)) = z) := ⟨_, rfl⟩
  rw [HZ.out]
  unfold In.val
  dsimp only
  go_enter Tryz.func14, Tryz.ntmps14
  go_upto_region 1 with fail
  have HG1 := hide (kp_n (B := B) hgb)
  generalize w.alloc (.cells #[.int .i64 7, .int .i64 (a : Int), .int .i64 (b : Int), .int .i64 (c : Int), .int .i64 x.k, .int .i64 x.n, .string x.s] 44) = W at *
  have hqg : g < w.heap.size := hM.lt
  generalize hq : w.heap.size = q at *
  have t0 := hM1.tb.c0
  have tf := hM1.tb.fz 0
  have hM2 := hM1.to (S.pc + 1)
  have hb2 := hb.kept hM2.2 (by simp; omega)
  have HG2 := hide (HG1.out.then (kp_of hM2.2 hM1.gB))
  obtain ⟨b0, b1, b2, b3, b4, b5, b6⟩ := hb.cs
  dsimp only at b0 b1 b2 b3 b4 b5 b6
  go_upto_region 2 with fail
  have HM2 := hide hM2.1
  clear t0 tf hM1 hb hM2 b0 b1 b2 b3 b4 b5 b6
  generalize W.setCell ⟨g, 0, none⟩ (.int .i64 (S.pc + 1)) = W2 at *
  obtain ⟨b0, b1, b2, b3, b4, b5, b6⟩ := hb2.cs
  dsimp only at b0 b1 b2 b3 b4 b5 b6
  have hM2 := HM2.out
  have t1 := hM2.tb.c1
  go_upto_region 15 with fail
  have HC : Hid (∀ W0 v v', Tup W0 v [S.at (b : Int)] → Tup W0 v' [S.at (c : Int)] → Calls Tryz.prog 44 #[v, v'] W0 fun e w' => e = .returned (.int .i64 z) ∧ W0.grownBy w' none) := by
    intro W0 v v' h1 h2
    have h := rcompare_any v v' _ _ W0 h1 h2 (by intro x hx; rw [List.mem_singleton.1 hx]; exact hwb) (by intro x hx; rw [List.mem_singleton.1 hx]; exact hwc)
    rw [cmpL_one, HZ.out] at h
    exact h
  obtain ⟨ar0, ar1, ar2, rf⟩ := xg_to hM2 h6 a la
  obtain ⟨br0, br1, br2, rf⟩ := xg_to hM2 h6 b lb
  obtain ⟨cr0, cr1, cr2, rf⟩ := xg_to hM2 h6 c lc
  have dr := grown_dr W2
  go_cut [4] from 59 to 77 (fun t4 W4 => t4 = .int .i64 z ∧ W2.grownBy W4 none)
  case first =>
    refine wp_region_held_drew (S := fun W0 => W2.grownBy W0 none) (by kernel_rfl) (dr) (fun hHeld => ?_)
    refine take_at (i := 0) (d := 59) (v := ?_) rfl rfl (by kernel_rfl) (by kernel_rfl) (by kernel_rfl) (fun _ _ _ h => h) (Or.inl ⟨by rfl, ?_⟩) (by assumption) ?_
    rotate_left
    · intro W hSW
      try dsimp only at hSW
      have g0 := cell_g t1 hSW
      have g1 := cell_g b2 hSW
      have g2 := cell_g b3 hSW
      have g3 := cell_g br0 hSW
      have g4 := cell_g br1 hSW
      have g5 := cell_g br2 hSW
      have g6 := cell_g cr0 hSW
      have g7 := cell_g cr1 hSW
      have g8 := cell_g cr2 hSW
      go_simp
      try with_reducible rfl
    try simp only [Act.put, List.setIfInBounds_toArray, List.set_cons_zero, List.set_cons_succ]
    refine take_at (i := 1) (d := 60) (v := ?_) rfl rfl (by kernel_rfl) (by kernel_rfl) (by kernel_rfl) (fun _ _ _ h => h) (Or.inl ⟨by rfl, ?_⟩) (by assumption) ?_
    rotate_left
    · intro W hSW
      try dsimp only at hSW
      have g0 := cell_g t1 hSW
      have g1 := cell_g b2 hSW
      have g2 := cell_g b3 hSW
      have g3 := cell_g br0 hSW
      have g4 := cell_g br1 hSW
      have g5 := cell_g br2 hSW
      have g6 := cell_g cr0 hSW
      have g7 := cell_g cr1 hSW
      have g8 := cell_g cr2 hSW
      go_simp
      try with_reducible rfl
    try simp only [Act.put, List.setIfInBounds_toArray, List.set_cons_zero, List.set_cons_succ]
    refine take_at (i := 2) (d := 61) (v := ?_) rfl rfl (by kernel_rfl) (by kernel_rfl) (by kernel_rfl) (fun _ _ _ h => h) (Or.inl ⟨by rfl, ?_⟩) (by assumption) ?_
    rotate_left
    · intro W hSW
      try dsimp only at hSW
      have g0 := cell_g t1 hSW
      have g1 := cell_g b2 hSW
      have g2 := cell_g b3 hSW
      have g3 := cell_g br0 hSW
      have g4 := cell_g br1 hSW
      have g5 := cell_g br2 hSW
      have g6 := cell_g cr0 hSW
      have g7 := cell_g cr1 hSW
      have g8 := cell_g cr2 hSW
      go_simp
      try with_reducible rfl
    try simp only [Act.put, List.setIfInBounds_toArray, List.set_cons_zero, List.set_cons_succ]
    refine take_at (i := 3) (d := 62) (v := ?_) rfl rfl (by kernel_rfl) (by kernel_rfl) (by kernel_rfl) (fun _ _ _ h => h) (Or.inl ⟨by rfl, ?_⟩) (by assumption) ?_
    rotate_left
    · intro W hSW
      try dsimp only at hSW
      have g0 := cell_g t1 hSW
      have g1 := cell_g b2 hSW
      have g2 := cell_g b3 hSW
      have g3 := cell_g br0 hSW
      have g4 := cell_g br1 hSW
      have g5 := cell_g br2 hSW
      have g6 := cell_g cr0 hSW
      have g7 := cell_g cr1 hSW
      have g8 := cell_g cr2 hSW
      go_simp
      try with_reducible rfl
    try simp only [Act.put, List.setIfInBounds_toArray, List.set_cons_zero, List.set_cons_succ]
    refine take_at (i := 4) (d := 63) (v := ?_) rfl rfl (by kernel_rfl) (by kernel_rfl) (by kernel_rfl) (fun _ _ _ h => h) (Or.inl ⟨by rfl, ?_⟩) (by assumption) ?_
    rotate_left
    · intro W hSW
      try dsimp only at hSW
      have g0 := cell_g t1 hSW
      have g1 := cell_g b2 hSW
      have g2 := cell_g b3 hSW
      have g3 := cell_g br0 hSW
      have g4 := cell_g br1 hSW
      have g5 := cell_g br2 hSW
      have g6 := cell_g cr0 hSW
      have g7 := cell_g cr1 hSW
      have g8 := cell_g cr2 hSW
      go_simp
      try with_reducible rfl
    try simp only [Act.put, List.setIfInBounds_toArray, List.set_cons_zero, List.set_cons_succ]
    refine take_at (i := 5) (d := 64) (v := ?_) rfl rfl (by kernel_rfl) (by kernel_rfl) (by kernel_rfl) (fun _ _ _ h => h) (Or.inl ⟨by rfl, ?_⟩) (by assumption) ?_
    rotate_left
    · intro W hSW
      try dsimp only at hSW
      have g0 := cell_g t1 hSW
      have g1 := cell_g b2 hSW
      have g2 := cell_g b3 hSW
      have g3 := cell_g br0 hSW
      have g4 := cell_g br1 hSW
      have g5 := cell_g br2 hSW
      have g6 := cell_g cr0 hSW
      have g7 := cell_g cr1 hSW
      have g8 := cell_g cr2 hSW
      go_simp
      try with_reducible rfl
    try simp only [Act.put, List.setIfInBounds_toArray, List.set_cons_zero, List.set_cons_succ]
    refine take_at (i := 6) (d := 65) (v := ?_) rfl rfl (by kernel_rfl) (by kernel_rfl) (by kernel_rfl) (fun _ _ _ h => h) (Or.inl ⟨by rfl, ?_⟩) (by assumption) ?_
    rotate_left
    · intro W hSW
      try dsimp only at hSW
      have g0 := cell_g t1 hSW
      have g1 := cell_g b2 hSW
      have g2 := cell_g b3 hSW
      have g3 := cell_g br0 hSW
      have g4 := cell_g br1 hSW
      have g5 := cell_g br2 hSW
      have g6 := cell_g cr0 hSW
      have g7 := cell_g cr1 hSW
      have g8 := cell_g cr2 hSW
      go_simp
      try with_reducible rfl
    try simp only [Act.put, List.setIfInBounds_toArray, List.set_cons_zero, List.set_cons_succ]
    refine take_at (i := 7) (d := 66) (v := ?_) rfl rfl (by kernel_rfl) (by kernel_rfl) (by kernel_rfl) (fun _ _ _ h => h) (Or.inl ⟨by rfl, ?_⟩) (by assumption) ?_
    rotate_left
    · intro W hSW
      try dsimp only at hSW
      have g0 := cell_g t1 hSW
      have g1 := cell_g b2 hSW
      have g2 := cell_g b3 hSW
      have g3 := cell_g br0 hSW
      have g4 := cell_g br1 hSW
      have g5 := cell_g br2 hSW
      have g6 := cell_g cr0 hSW
      have g7 := cell_g cr1 hSW
      have g8 := cell_g cr2 hSW
      go_simp
      try with_reducible rfl
    try simp only [Act.put, List.setIfInBounds_toArray, List.set_cons_zero, List.set_cons_succ]
    refine take_at (i := 9) (d := 68) (v := ?_) rfl rfl (by kernel_rfl) (by kernel_rfl) (by kernel_rfl) (fun _ _ _ h => h) (Or.inl ⟨by rfl, ?_⟩) (by assumption) ?_
    rotate_left
    · intro W hSW
      try dsimp only at hSW
      have g0 := cell_g t1 hSW
      have g1 := cell_g b2 hSW
      have g2 := cell_g b3 hSW
      have g3 := cell_g br0 hSW
      have g4 := cell_g br1 hSW
      have g5 := cell_g br2 hSW
      have g6 := cell_g cr0 hSW
      have g7 := cell_g cr1 hSW
      have g8 := cell_g cr2 hSW
      go_simp
      try with_reducible rfl
    try simp only [Act.put, List.setIfInBounds_toArray, List.set_cons_zero, List.set_cons_succ]
    refine take_at (i := 10) (d := 69) (v := ?_) rfl rfl (by kernel_rfl) (by kernel_rfl) (by kernel_rfl) (fun _ _ _ h => h) (Or.inl ⟨by rfl, ?_⟩) (by assumption) ?_
    rotate_left
    · intro W hSW
      try dsimp only at hSW
      have g0 := cell_g t1 hSW
      have g1 := cell_g b2 hSW
      have g2 := cell_g b3 hSW
      have g3 := cell_g br0 hSW
      have g4 := cell_g br1 hSW
      have g5 := cell_g br2 hSW
      have g6 := cell_g cr0 hSW
      have g7 := cell_g cr1 hSW
      have g8 := cell_g cr2 hSW
      go_simp
      try with_reducible rfl
    try simp only [Act.put, List.setIfInBounds_toArray, List.set_cons_zero, List.set_cons_succ]
    refine take_at (i := 11) (d := 70) (v := ?_) rfl rfl (by kernel_rfl) (by kernel_rfl) (by kernel_rfl) (fun _ _ _ h => h) (Or.inl ⟨by rfl, ?_⟩) (by assumption) ?_
    rotate_left
    · intro W hSW
      try dsimp only at hSW
      have g0 := cell_g t1 hSW
      have g1 := cell_g b2 hSW
      have g2 := cell_g b3 hSW
      have g3 := cell_g br0 hSW
      have g4 := cell_g br1 hSW
      have g5 := cell_g br2 hSW
      have g6 := cell_g cr0 hSW
      have g7 := cell_g cr1 hSW
      have g8 := cell_g cr2 hSW
      go_simp
      try with_reducible rfl
    try simp only [Act.put, List.setIfInBounds_toArray, List.set_cons_zero, List.set_cons_succ]
    refine take_at (i := 12) (d := 71) (v := ?_) rfl rfl (by kernel_rfl) (by kernel_rfl) (by kernel_rfl) (fun _ _ _ h => h) (Or.inl ⟨by rfl, ?_⟩) (by assumption) ?_
    rotate_left
    · intro W hSW
      try dsimp only at hSW
      have g0 := cell_g t1 hSW
      have g1 := cell_g b2 hSW
      have g2 := cell_g b3 hSW
      have g3 := cell_g br0 hSW
      have g4 := cell_g br1 hSW
      have g5 := cell_g br2 hSW
      have g6 := cell_g cr0 hSW
      have g7 := cell_g cr1 hSW
      have g8 := cell_g cr2 hSW
      go_simp
      try with_reducible rfl
    try simp only [Act.put, List.setIfInBounds_toArray, List.set_cons_zero, List.set_cons_succ]
    refine take_at (i := 13) (d := 72) (v := ?_) rfl rfl (by kernel_rfl) (by kernel_rfl) (by kernel_rfl) (fun _ _ _ h => h) (Or.inl ⟨by rfl, ?_⟩) (by assumption) ?_
    rotate_left
    · intro W hSW
      try dsimp only at hSW
      have g0 := cell_g t1 hSW
      have g1 := cell_g b2 hSW
      have g2 := cell_g b3 hSW
      have g3 := cell_g br0 hSW
      have g4 := cell_g br1 hSW
      have g5 := cell_g br2 hSW
      have g6 := cell_g cr0 hSW
      have g7 := cell_g cr1 hSW
      have g8 := cell_g cr2 hSW
      go_simp
      try with_reducible rfl
    try simp only [Act.put, List.setIfInBounds_toArray, List.set_cons_zero, List.set_cons_succ]
    refine take_at (i := 14) (d := 73) (v := ?_) rfl rfl (by kernel_rfl) (by kernel_rfl) (by kernel_rfl) (fun _ _ _ h => h) (Or.inl ⟨by rfl, ?_⟩) (by assumption) ?_
    rotate_left
    · intro W hSW
      try dsimp only at hSW
      have g0 := cell_g t1 hSW
      have g1 := cell_g b2 hSW
      have g2 := cell_g b3 hSW
      have g3 := cell_g br0 hSW
      have g4 := cell_g br1 hSW
      have g5 := cell_g br2 hSW
      have g6 := cell_g cr0 hSW
      have g7 := cell_g cr1 hSW
      have g8 := cell_g cr2 hSW
      go_simp
      try with_reducible rfl
    try simp only [Act.put, List.setIfInBounds_toArray, List.set_cons_zero, List.set_cons_succ]
    refine take_at (i := 15) (d := 74) (v := ?_) rfl rfl (by kernel_rfl) (by kernel_rfl) (by kernel_rfl) (fun _ _ _ h => h) (Or.inl ⟨by rfl, ?_⟩) (by assumption) ?_
    rotate_left
    · intro W hSW
      try dsimp only at hSW
      have g0 := cell_g t1 hSW
      have g1 := cell_g b2 hSW
      have g2 := cell_g b3 hSW
      have g3 := cell_g br0 hSW
      have g4 := cell_g br1 hSW
      have g5 := cell_g br2 hSW
      have g6 := cell_g cr0 hSW
      have g7 := cell_g cr1 hSW
      have g8 := cell_g cr2 hSW
      go_simp
      try with_reducible rfl
    try simp only [Act.put, List.setIfInBounds_toArray, List.set_cons_zero, List.set_cons_succ]
    refine take_at (i := 16) (d := 75) (v := ?_) rfl rfl (by kernel_rfl) (by kernel_rfl) (by kernel_rfl) (fun _ _ _ h => h) (Or.inl ⟨by rfl, ?_⟩) (by assumption) ?_
    rotate_left
    · intro W hSW
      try dsimp only at hSW
      have g0 := cell_g t1 hSW
      have g1 := cell_g b2 hSW
      have g2 := cell_g b3 hSW
      have g3 := cell_g br0 hSW
      have g4 := cell_g br1 hSW
      have g5 := cell_g br2 hSW
      have g6 := cell_g cr0 hSW
      have g7 := cell_g cr1 hSW
      have g8 := cell_g cr2 hSW
      go_simp
      try with_reducible rfl
    try simp only [Act.put, List.setIfInBounds_toArray, List.set_cons_zero, List.set_cons_succ]
    refine wpAnyH_ready (rs := [8, 17]) (by kernel_rfl) (by simp) ?_
    refine AllReadyH.cons rfl (fun K hK => ?_) ?_
    · go_simp
      have G1 : W2.grownBy (World.drew (World.alloc W2 (.cells #[.int .i64 (S.at (b : Int)).k, .int .i64 (S.at (b : Int)).n, .string (S.at (b : Int)).s] 31))) none := grown_up (World.grownBy_alloc W2 (.cells #[.int .i64 (S.at (b : Int)).k, .int .i64 (S.at (b : Int)).n, .string (S.at (b : Int)).s] 31) none) (grown_dr _)
      refine hK.out _ _ (G1) (fun hHeld => ?_)
      clear hK K
      try simp only [Act.put, List.setIfInBounds_toArray, List.set_cons_zero, List.set_cons_succ]
      have T8 : Tup (World.drew (World.alloc W2 (.cells #[.int .i64 (S.at (b : Int)).k, .int .i64 (S.at (b : Int)).n, .string (S.at (b : Int)).s] 31))) (.slice (some ⟨W2.heap.size, 0, none⟩) 1 1) [S.at (b : Int)] := (tup_one W2 (S.at (b : Int)) 31 _ rfl).keptN (grown_dr _)
      generalize (World.drew (World.alloc W2 (.cells #[.int .i64 (S.at (b : Int)).k, .int .i64 (S.at (b : Int)).n, .string (S.at (b : Int)).s] 31))) = y1 at *
      obtain ⟨p1, hp1⟩ : ∃ p, W2.heap.size = p := ⟨_, rfl⟩
      rw [hp1] at T8 ⊢
      refine wpAnyH_ready (rs := [17]) (by kernel_rfl) (by simp) ?_
      refine AllReadyH.cons rfl (fun K hK => ?_) ?_
      · go_simp
        have G2 : W2.grownBy (World.alloc y1 (.cells #[.int .i64 (S.at (c : Int)).k, .int .i64 (S.at (c : Int)).n, .string (S.at (c : Int)).s] 31)) none := grown_up G1 (World.grownBy_alloc y1 (.cells #[.int .i64 (S.at (c : Int)).k, .int .i64 (S.at (c : Int)).n, .string (S.at (c : Int)).s] 31) none)
        refine hK.out _ _ (G2) (fun hHeld => ?_)
        clear hK K
        try simp only [Act.put, List.setIfInBounds_toArray, List.set_cons_zero, List.set_cons_succ]
        have T17 : Tup (World.alloc y1 (.cells #[.int .i64 (S.at (c : Int)).k, .int .i64 (S.at (c : Int)).n, .string (S.at (c : Int)).s] 31)) (.slice (some ⟨y1.heap.size, 0, none⟩) 1 1) [S.at (c : Int)] := tup_one y1 (S.at (c : Int)) 31 _ rfl
        have T8 := T8.keptN (World.grownBy_alloc y1 (.cells #[.int .i64 (S.at (c : Int)).k, .int .i64 (S.at (c : Int)).n, .string (S.at (c : Int)).s] 31) none)
        generalize (World.alloc y1 (.cells #[.int .i64 (S.at (c : Int)).k, .int .i64 (S.at (c : Int)).n, .string (S.at (c : Int)).s] 31)) = y2 at *
        obtain ⟨p2, hp2⟩ : ∃ p, y1.heap.size = p := ⟨_, rfl⟩
        rw [hp2] at T17 ⊢
        refine wpAnyH_ready (rs := [18]) (by kernel_rfl) (by simp) ?_
        refine AllReadyH.cons rfl (fun K hK => ?_) ?_
        · go_simp
          go_wp2_with (go_at_call 44; refine (HC.out _ _ _ T8 T17).mono ?_; rintro e y3 ⟨rfl, g3⟩)
          have G3 := grown_up G2 g3
          refine hK.out _ _ (G3) (fun hHeld => ?_)
          clear hK K
          try simp only [Act.put, List.setIfInBounds_toArray, List.set_cons_zero, List.set_cons_succ]
          refine take_at (i := 19) (d := 4) (v := ?_) rfl rfl (by kernel_rfl) (by kernel_rfl) (by kernel_rfl) (fun _ _ _ h => h) (Or.inl ⟨by rfl, ?_⟩) (by assumption) ?_
          rotate_left
          · intro W hSW
            try dsimp only at hSW
            go_simp
            try with_reducible rfl
          try simp only [Act.put, List.setIfInBounds_toArray, List.set_cons_zero, List.set_cons_succ]
          refine wpAnyH_done (by kernel_rfl) ?_ _
          go_wp2_with fail
          go_meet
          exact ⟨rfl, G3⟩
        exact AllReadyH.nil
      exact AllReadyH.nil
    refine AllReadyH.cons rfl (fun K hK => ?_) ?_
    · go_simp
      have G1 : W2.grownBy (World.drew (World.alloc W2 (.cells #[.int .i64 (S.at (c : Int)).k, .int .i64 (S.at (c : Int)).n, .string (S.at (c : Int)).s] 31))) none := grown_up (World.grownBy_alloc W2 (.cells #[.int .i64 (S.at (c : Int)).k, .int .i64 (S.at (c : Int)).n, .string (S.at (c : Int)).s] 31) none) (grown_dr _)
      refine hK.out _ _ (G1) (fun hHeld => ?_)
      clear hK K
      try simp only [Act.put, List.setIfInBounds_toArray, List.set_cons_zero, List.set_cons_succ]
      have T17 : Tup (World.drew (World.alloc W2 (.cells #[.int .i64 (S.at (c : Int)).k, .int .i64 (S.at (c : Int)).n, .string (S.at (c : Int)).s] 31))) (.slice (some ⟨W2.heap.size, 0, none⟩) 1 1) [S.at (c : Int)] := (tup_one W2 (S.at (c : Int)) 31 _ rfl).keptN (grown_dr _)
      generalize (World.drew (World.alloc W2 (.cells #[.int .i64 (S.at (c : Int)).k, .int .i64 (S.at (c : Int)).n, .string (S.at (c : Int)).s] 31))) = y1 at *
      obtain ⟨p1, hp1⟩ : ∃ p, W2.heap.size = p := ⟨_, rfl⟩
      rw [hp1] at T17 ⊢
      refine wpAnyH_ready (rs := [8]) (by kernel_rfl) (by simp) ?_
      refine AllReadyH.cons rfl (fun K hK => ?_) ?_
      · go_simp
        have G2 : W2.grownBy (World.alloc y1 (.cells #[.int .i64 (S.at (b : Int)).k, .int .i64 (S.at (b : Int)).n, .string (S.at (b : Int)).s] 31)) none := grown_up G1 (World.grownBy_alloc y1 (.cells #[.int .i64 (S.at (b : Int)).k, .int .i64 (S.at (b : Int)).n, .string (S.at (b : Int)).s] 31) none)
        refine hK.out _ _ (G2) (fun hHeld => ?_)
        clear hK K
        try simp only [Act.put, List.setIfInBounds_toArray, List.set_cons_zero, List.set_cons_succ]
        have T8 : Tup (World.alloc y1 (.cells #[.int .i64 (S.at (b : Int)).k, .int .i64 (S.at (b : Int)).n, .string (S.at (b : Int)).s] 31)) (.slice (some ⟨y1.heap.size, 0, none⟩) 1 1) [S.at (b : Int)] := tup_one y1 (S.at (b : Int)) 31 _ rfl
        have T17 := T17.keptN (World.grownBy_alloc y1 (.cells #[.int .i64 (S.at (b : Int)).k, .int .i64 (S.at (b : Int)).n, .string (S.at (b : Int)).s] 31) none)
        generalize (World.alloc y1 (.cells #[.int .i64 (S.at (b : Int)).k, .int .i64 (S.at (b : Int)).n, .string (S.at (b : Int)).s] 31)) = y2 at *
        obtain ⟨p2, hp2⟩ : ∃ p, y1.heap.size = p := ⟨_, rfl⟩
        rw [hp2] at T8 ⊢
        refine wpAnyH_ready (rs := [18]) (by kernel_rfl) (by simp) ?_
        refine AllReadyH.cons rfl (fun K hK => ?_) ?_
        · go_simp
          go_wp2_with (go_at_call 44; refine (HC.out _ _ _ T8 T17).mono ?_; rintro e y3 ⟨rfl, g3⟩)
          have G3 := grown_up G2 g3
          refine hK.out _ _ (G3) (fun hHeld => ?_)
          clear hK K
          try simp only [Act.put, List.setIfInBounds_toArray, List.set_cons_zero, List.set_cons_succ]
          refine take_at (i := 19) (d := 4) (v := ?_) rfl rfl (by kernel_rfl) (by kernel_rfl) (by kernel_rfl) (fun _ _ _ h => h) (Or.inl ⟨by rfl, ?_⟩) (by assumption) ?_
          rotate_left
          · intro W hSW
            try dsimp only at hSW
            go_simp
            try with_reducible rfl
          try simp only [Act.put, List.setIfInBounds_toArray, List.set_cons_zero, List.set_cons_succ]
          refine wpAnyH_done (by kernel_rfl) ?_ _
          go_wp2_with fail
          go_meet
          exact ⟨rfl, G3⟩
        exact AllReadyH.nil
      exact AllReadyH.nil
    exact AllReadyH.nil
  case rest =>
    obtain ⟨rfl, hg4⟩ := hcut
    have hM4 := hM2.keptN hg4
    have hb4 := hb2.kept hg4 (by simp)
    have HG4 := hide (HG2.out.then (kp_n hg4))
    clear dr t1 b0 b1 b2 b3 b4 b5 b6 ar0 ar1 ar2 br0 br1 br2 cr0 cr1 cr2 rf HC hM2 hb2 HM2 HG2 hg4
    obtain ⟨b0, b1, b2, b3, b4, b5, b6⟩ := hb4.cs
    dsimp only at b0 b1 b2 b3 b4 b5 b6
    have hM2 := hM4
    have HG2 := HG4
    have t1 := hM2.tb.c1
    generalize wc = W2 at *
    obtain ⟨ar0, ar1, ar2, rf⟩ := xg_to hM2 h6 a la
    have dr := grown_dr W2
    go_upto_region 16 with fail
    have ng : ¬ only r g := fun e => hrg e.symm
    have nq : ¬ only r q := fun e => by unfold only at e; omega
    refine wp_region_held_drew (S := fun W0 => Kp (only r) W2 W0) (by kernel_rfl) (Kp.drew _ _) (fun hHeld => ?_)
    refine take_at (i := 0) (d := 78) (v := ?_) rfl rfl (by kernel_rfl) (by kernel_rfl) (by kernel_rfl) (fun _ _ _ h => h) (Or.inl ⟨by rfl, ?_⟩) (by assumption) ?_
    rotate_left
    · intro W hSW
      try dsimp only at hSW
      have g0 := hSW.cell t1 ng
      have g1 := hSW.cell b1 nq
      go_simp
      try with_reducible rfl
    try simp only [Act.put, List.setIfInBounds_toArray, List.set_cons_zero, List.set_cons_succ]
    refine take_at (i := 1) (d := 79) (v := ?_) rfl rfl (by kernel_rfl) (by kernel_rfl) (by kernel_rfl) (fun _ _ _ h => h) (Or.inl ⟨by rfl, ?_⟩) (by assumption) ?_
    rotate_left
    · intro W hSW
      try dsimp only at hSW
      have g0 := hSW.cell t1 ng
      have g1 := hSW.cell b1 nq
      go_simp
      try with_reducible rfl
    try simp only [Act.put, List.setIfInBounds_toArray, List.set_cons_zero, List.set_cons_succ]
    refine take_at (i := 2) (d := 80) (v := ?_) rfl rfl (by kernel_rfl) (by kernel_rfl) (by kernel_rfl) (fun _ _ _ h => h) (Or.inl ⟨by rfl, ?_⟩) (by assumption) ?_
    rotate_left
    · intro W hSW
      try dsimp only at hSW
      have g0 := hSW.cell t1 ng
      have g1 := hSW.cell b1 nq
      go_simp
      try with_reducible rfl
    try simp only [Act.put, List.setIfInBounds_toArray, List.set_cons_zero, List.set_cons_succ]
    refine take_at (i := 3) (d := 81) (v := ?_) rfl rfl (by kernel_rfl) (by kernel_rfl) (by kernel_rfl) (fun _ _ _ h => h) (Or.inl ⟨by rfl, ?_⟩) (by assumption) ?_
    rotate_left
    · intro W hSW
      try dsimp only at hSW
      have g0 := hSW.cell t1 ng
      have g1 := hSW.cell b1 nq
      go_simp
      try with_reducible rfl
    try simp only [Act.put, List.setIfInBounds_toArray, List.set_cons_zero, List.set_cons_succ]
    refine take_at (i := 4) (d := 82) (v := ?_) rfl rfl (by kernel_rfl) (by kernel_rfl) (by kernel_rfl) (fun _ _ _ h => h) (Or.inl ⟨by rfl, ?_⟩) (by assumption) ?_
    rotate_left
    · intro W hSW
      try dsimp only at hSW
      have g0 := hSW.cell t1 ng
      have g1 := hSW.cell b1 nq
      go_simp
      try with_reducible rfl
    try simp only [Act.put, List.setIfInBounds_toArray, List.set_cons_zero, List.set_cons_succ]
    refine take_at (i := 5) (d := 83) (v := ?_) rfl rfl (by kernel_rfl) (by kernel_rfl) (by kernel_rfl) (fun _ _ _ h => h) (Or.inl ⟨by rfl, ?_⟩) (by assumption) ?_
    rotate_left
    · intro W hSW
      try dsimp only at hSW
      have g0 := hSW.cell t1 ng
      have g1 := hSW.cell b1 nq
      go_simp
      try with_reducible rfl
    try simp only [Act.put, List.setIfInBounds_toArray, List.set_cons_zero, List.set_cons_succ]
    refine take_at (i := 6) (d := 84) (v := ?_) rfl rfl (by kernel_rfl) (by kernel_rfl) (by kernel_rfl) (fun _ _ _ h => h) (Or.inl ⟨by rfl, ?_⟩) (by assumption) ?_
    rotate_left
    · intro W hSW
      try dsimp only at hSW
      have g0 := hSW.cell t1 ng
      have g1 := hSW.cell b1 nq
      go_simp
      try with_reducible rfl
    try simp only [Act.put, List.setIfInBounds_toArray, List.set_cons_zero, List.set_cons_succ]
    refine take_at (i := 7) (d := 85) (v := ?_) rfl rfl (by kernel_rfl) (by kernel_rfl) (by kernel_rfl) (fun _ _ _ h => h) (Or.inl ⟨by rfl, ?_⟩) (by assumption) ?_
    rotate_left
    · intro W hSW
      try dsimp only at hSW
      have g0 := hSW.cell t1 ng
      have g1 := hSW.cell b1 nq
      go_simp
      try with_reducible rfl
    try simp only [Act.put, List.setIfInBounds_toArray, List.set_cons_zero, List.set_cons_succ]
    refine wpAnyH_ready (rs := [8]) (by kernel_rfl) (by simp) ?_
    refine AllReadyH.cons rfl (fun K hK => ?_) ?_
    · go_simp
      go_wp2_with (go_at_call 45; refine (xtruth_any _ _).mono ?_; rintro e y3 ⟨rfl, g3⟩)
      have G3 := grown_up dr g3
      have hM3 := hM2.keptN G3
      obtain ⟨ar0, ar1, ar2, rf⟩ := xg_to hM3 h6 a la
      refine hK.out _ _ (Kp.ofN G3 _) (fun hHeld => ?_)
      clear hK K
      try simp only [Act.put, List.setIfInBounds_toArray, List.set_cons_zero, List.set_cons_succ]
      refine take_at (i := 9) (d := 87) (v := ?_) rfl rfl (by kernel_rfl) (by kernel_rfl) (by kernel_rfl) (fun _ _ _ h => h) (Or.inl ⟨by rfl, ?_⟩) (by assumption) ?_
      rotate_left
      · intro W hSW
        try dsimp only at hSW
        go_simp
        try with_reducible rfl
      try simp only [Act.put, List.setIfInBounds_toArray, List.set_cons_zero, List.set_cons_succ]
      refine wpAnyH_ready (rs := [10]) (by kernel_rfl) (by simp) ?_
      refine AllReadyH.cons rfl (fun K hK => ?_) ?_
      · have hP := xset_raw hM3 h6 a la (tru (decide (z < 0))).k (tru (decide (z < 0))).n (tru (decide (z < 0))).s
        go_simp
        refine hK.out _ _ ((Kp.ofN G3 _).then (Kp.ofGrown hP.2 (S := only r) (fun k e _ => by cases e; rfl))) (fun hHeld => ?_)
        clear hK K
        try simp only [Act.put, List.setIfInBounds_toArray, List.set_cons_zero, List.set_cons_succ]
        refine wpAnyH_done (by kernel_rfl) ?_ _
        go_wp2
        go_end0
        exact ⟨rfl, ⟨_, _, _, _, hP.1⟩, (HG2.out.then (kp_n G3)).then (kp_of hP.2 hBr)⟩
      exact AllReadyH.nil
    exact AllReadyH.nil

end Go.Proofs.YtpoahegccjgnjaaGreatDoor

namespace Go.Proofs.YtpoahegccjgnjaaGreatDoor
open Go Go.RowKit
set_option linter.unusedVariables false

theorem u_mod (n : Int) : IntKind.u64.wrap n = n % 18446744073709551616 := rfl
theorem i_wrap (n : Int) : IntKind.i64.wrap n = wrap64 n := by
  unfold IntKind.wrap wrap64
  simp [IntKind.signed, IntKind.bits]
  try split
  all_goals omega
theorem wrap_cong {m n : Int} (h : m % 18446744073709551616 = n % 18446744073709551616) : wrap64 m = wrap64 n := by unfold wrap64; omega
theorem w_add (m n : Int) : wrap64 (IntKind.u64.wrap (IntKind.u64.wrap m + IntKind.u64.wrap n)) = wrap64 (m + n) := wrap_cong (by simp only [u_mod]; omega)
theorem w_sub (m n : Int) : wrap64 (IntKind.u64.wrap (IntKind.u64.wrap m - IntKind.u64.wrap n)) = wrap64 (m - n) := wrap_cong (by simp only [u_mod]; omega)
theorem w_mul (m n : Int) : wrap64 (IntKind.u64.wrap (IntKind.u64.wrap m * IntKind.u64.wrap n)) = wrap64 (m * n) := wrap_cong (by simp only [u_mod]; rw [Int.emod_emod_of_dvd _ (Int.dvd_refl _), ← Int.mul_emod])
set_option maxRecDepth 100000 in
set_option maxHeartbeats 4000000 in
theorem xsum_add (B : Bd) (g : Nat) (tv rv pv ov kv : Value) (S : Ms) (x : V) (a : Nat) (b : Nat) (c : Nat) (la : a < 6) (lb : b < 6) (lc : c < 6) (w : World) (hM : Xm B w g tv S 0 zV false false rv pv ov kv) (h6 : S.rg.length = 6) (hp0 : 0 ≤ S.pc) (hp1 : S.pc ≤ 1000) (hnb : (S.at (b : Int)).wf) (hnc : (S.at (c : Int)).wf) :
    Calls Tryz.prog 42 #[.pointer (some ⟨g, 0, none⟩), (⟨3, (a : Int), (b : Int), (c : Int), x⟩ : In).val] w fun e w' => XP B w g tv (S.sum (⟨3, (a : Int), (b : Int), (c : Int), x⟩ : In) (· + ·)) e w' := by
  obtain ⟨r, cap, rfl, hBr, hr, hrg⟩ := xt_cells hM h6
  have hgb := World.grownBy_alloc w (.cells #[.int .i64 3, .int .i64 (a : Int), .int .i64 (b : Int), .int .i64 (c : Int), .int .i64 x.k, .int .i64 x.n, .string x.s] 44) none
  have hb : Ib (w.alloc (.cells #[.int .i64 3, .int .i64 (a : Int), .int .i64 (b : Int), .int .i64 (c : Int), .int .i64 x.k, .int .i64 x.n, .string x.s] 44)) w.heap.size ⟨3, (a : Int), (b : Int), (c : Int), x⟩ := Ib.new w ⟨3, (a : Int), (b : Int), (c : Int), x⟩
  have hM1 := hM.keptN hgb
  have la' : (a : Int) < 6 := by omega
  have lb' : (b : Int) < 6 := by omega
  have lc' : (c : Int) < 6 := by omega
  obtain ⟨R, HR⟩ : ∃ R, Hid (S.sum (⟨3, (a : Int), (b : Int), (c : Int), x⟩ : In) (· + ·) = R) := ⟨_, rfl⟩
  rw [HR.out]
  unfold In.val
  dsimp only
  go_enter Tryz.func42, Tryz.ntmps42
  go_upto_region 1 with fail
  have HG1 := hide (kp_n (B := B) hgb)
  generalize w.alloc (.cells #[.int .i64 3, .int .i64 (a : Int), .int .i64 (b : Int), .int .i64 (c : Int), .int .i64 x.k, .int .i64 x.n, .string x.s] 44) = W at *
  have hqg : g < w.heap.size := hM.lt
  generalize hq : w.heap.size = q at *
  obtain ⟨b0, b1, b2, b3, b4, b5, b6⟩ := hb.cs
  dsimp only at b0 b1 b2 b3 b4 b5 b6
  have t1 := hM1.tb.c1
  obtain ⟨br0, br1, br2, rf⟩ := xg_cells hM1 h6 b lb
  obtain ⟨cr0, cr1, cr2, rf⟩ := xg_cells hM1 h6 c lc
  have dr := grown_dr W
  go_cut [4, 5] from 7 to 22 (fun t4 t5 W4 => ∃ p16 p17, t4 = .pointer (some ⟨p16, 0, none⟩) ∧ t5 = .pointer (some ⟨p17, 0, none⟩) ∧ Vb W4 p16 (S.at (b : Int)) ∧ Vb W4 p17 (S.at (c : Int)) ∧ W.heap.size ≤ p16 ∧ W.heap.size ≤ p17 ∧ p16 ≠ p17 ∧ W.grownBy W4 none)
  case first =>
    refine wp_region_held_drew (S := fun W0 => W.grownBy W0 none) (by kernel_rfl) (dr) (fun hHeld => ?_)
    refine take_at (i := 0) (d := 7) (v := ?_) rfl rfl (by kernel_rfl) (by kernel_rfl) (by kernel_rfl) (fun _ _ _ h => h) (Or.inl ⟨by rfl, ?_⟩) (by assumption) ?_
    rotate_left
    · intro W hSW
      try dsimp only at hSW
      have g0 := cell_g t1 hSW
      have g1 := cell_g b2 hSW
      have g2 := cell_g b3 hSW
      have g3 := cell_g br0 hSW
      have g4 := cell_g br1 hSW
      have g5 := cell_g br2 hSW
      have g6 := cell_g cr0 hSW
      have g7 := cell_g cr1 hSW
      have g8 := cell_g cr2 hSW
      go_simp
      try with_reducible rfl
    try simp only [Act.put, List.setIfInBounds_toArray, List.set_cons_zero, List.set_cons_succ]
    refine take_at (i := 1) (d := 8) (v := ?_) rfl rfl (by kernel_rfl) (by kernel_rfl) (by kernel_rfl) (fun _ _ _ h => h) (Or.inl ⟨by rfl, ?_⟩) (by assumption) ?_
    rotate_left
    · intro W hSW
      try dsimp only at hSW
      have g0 := cell_g t1 hSW
      have g1 := cell_g b2 hSW
      have g2 := cell_g b3 hSW
      have g3 := cell_g br0 hSW
      have g4 := cell_g br1 hSW
      have g5 := cell_g br2 hSW
      have g6 := cell_g cr0 hSW
      have g7 := cell_g cr1 hSW
      have g8 := cell_g cr2 hSW
      go_simp
      try with_reducible rfl
    try simp only [Act.put, List.setIfInBounds_toArray, List.set_cons_zero, List.set_cons_succ]
    refine take_at (i := 2) (d := 9) (v := ?_) rfl rfl (by kernel_rfl) (by kernel_rfl) (by kernel_rfl) (fun _ _ _ h => h) (Or.inl ⟨by rfl, ?_⟩) (by assumption) ?_
    rotate_left
    · intro W hSW
      try dsimp only at hSW
      have g0 := cell_g t1 hSW
      have g1 := cell_g b2 hSW
      have g2 := cell_g b3 hSW
      have g3 := cell_g br0 hSW
      have g4 := cell_g br1 hSW
      have g5 := cell_g br2 hSW
      have g6 := cell_g cr0 hSW
      have g7 := cell_g cr1 hSW
      have g8 := cell_g cr2 hSW
      go_simp
      try with_reducible rfl
    try simp only [Act.put, List.setIfInBounds_toArray, List.set_cons_zero, List.set_cons_succ]
    refine take_at (i := 3) (d := 10) (v := ?_) rfl rfl (by kernel_rfl) (by kernel_rfl) (by kernel_rfl) (fun _ _ _ h => h) (Or.inl ⟨by rfl, ?_⟩) (by assumption) ?_
    rotate_left
    · intro W hSW
      try dsimp only at hSW
      have g0 := cell_g t1 hSW
      have g1 := cell_g b2 hSW
      have g2 := cell_g b3 hSW
      have g3 := cell_g br0 hSW
      have g4 := cell_g br1 hSW
      have g5 := cell_g br2 hSW
      have g6 := cell_g cr0 hSW
      have g7 := cell_g cr1 hSW
      have g8 := cell_g cr2 hSW
      go_simp
      try with_reducible rfl
    try simp only [Act.put, List.setIfInBounds_toArray, List.set_cons_zero, List.set_cons_succ]
    refine take_at (i := 4) (d := 11) (v := ?_) rfl rfl (by kernel_rfl) (by kernel_rfl) (by kernel_rfl) (fun _ _ _ h => h) (Or.inl ⟨by rfl, ?_⟩) (by assumption) ?_
    rotate_left
    · intro W hSW
      try dsimp only at hSW
      have g0 := cell_g t1 hSW
      have g1 := cell_g b2 hSW
      have g2 := cell_g b3 hSW
      have g3 := cell_g br0 hSW
      have g4 := cell_g br1 hSW
      have g5 := cell_g br2 hSW
      have g6 := cell_g cr0 hSW
      have g7 := cell_g cr1 hSW
      have g8 := cell_g cr2 hSW
      go_simp
      try with_reducible rfl
    try simp only [Act.put, List.setIfInBounds_toArray, List.set_cons_zero, List.set_cons_succ]
    refine take_at (i := 5) (d := 12) (v := ?_) rfl rfl (by kernel_rfl) (by kernel_rfl) (by kernel_rfl) (fun _ _ _ h => h) (Or.inl ⟨by rfl, ?_⟩) (by assumption) ?_
    rotate_left
    · intro W hSW
      try dsimp only at hSW
      have g0 := cell_g t1 hSW
      have g1 := cell_g b2 hSW
      have g2 := cell_g b3 hSW
      have g3 := cell_g br0 hSW
      have g4 := cell_g br1 hSW
      have g5 := cell_g br2 hSW
      have g6 := cell_g cr0 hSW
      have g7 := cell_g cr1 hSW
      have g8 := cell_g cr2 hSW
      go_simp
      try with_reducible rfl
    try simp only [Act.put, List.setIfInBounds_toArray, List.set_cons_zero, List.set_cons_succ]
    refine take_at (i := 6) (d := 13) (v := ?_) rfl rfl (by kernel_rfl) (by kernel_rfl) (by kernel_rfl) (fun _ _ _ h => h) (Or.inl ⟨by rfl, ?_⟩) (by assumption) ?_
    rotate_left
    · intro W hSW
      try dsimp only at hSW
      have g0 := cell_g t1 hSW
      have g1 := cell_g b2 hSW
      have g2 := cell_g b3 hSW
      have g3 := cell_g br0 hSW
      have g4 := cell_g br1 hSW
      have g5 := cell_g br2 hSW
      have g6 := cell_g cr0 hSW
      have g7 := cell_g cr1 hSW
      have g8 := cell_g cr2 hSW
      go_simp
      try with_reducible rfl
    try simp only [Act.put, List.setIfInBounds_toArray, List.set_cons_zero, List.set_cons_succ]
    refine take_at (i := 7) (d := 14) (v := ?_) rfl rfl (by kernel_rfl) (by kernel_rfl) (by kernel_rfl) (fun _ _ _ h => h) (Or.inl ⟨by rfl, ?_⟩) (by assumption) ?_
    rotate_left
    · intro W hSW
      try dsimp only at hSW
      have g0 := cell_g t1 hSW
      have g1 := cell_g b2 hSW
      have g2 := cell_g b3 hSW
      have g3 := cell_g br0 hSW
      have g4 := cell_g br1 hSW
      have g5 := cell_g br2 hSW
      have g6 := cell_g cr0 hSW
      have g7 := cell_g cr1 hSW
      have g8 := cell_g cr2 hSW
      go_simp
      try with_reducible rfl
    try simp only [Act.put, List.setIfInBounds_toArray, List.set_cons_zero, List.set_cons_succ]
    refine take_at (i := 8) (d := 15) (v := ?_) rfl rfl (by kernel_rfl) (by kernel_rfl) (by kernel_rfl) (fun _ _ _ h => h) (Or.inl ⟨by rfl, ?_⟩) (by assumption) ?_
    rotate_left
    · intro W hSW
      try dsimp only at hSW
      have g0 := cell_g t1 hSW
      have g1 := cell_g b2 hSW
      have g2 := cell_g b3 hSW
      have g3 := cell_g br0 hSW
      have g4 := cell_g br1 hSW
      have g5 := cell_g br2 hSW
      have g6 := cell_g cr0 hSW
      have g7 := cell_g cr1 hSW
      have g8 := cell_g cr2 hSW
      go_simp
      try with_reducible rfl
    try simp only [Act.put, List.setIfInBounds_toArray, List.set_cons_zero, List.set_cons_succ]
    refine take_at (i := 9) (d := 16) (v := ?_) rfl rfl (by kernel_rfl) (by kernel_rfl) (by kernel_rfl) (fun _ _ _ h => h) (Or.inl ⟨by rfl, ?_⟩) (by assumption) ?_
    rotate_left
    · intro W hSW
      try dsimp only at hSW
      have g0 := cell_g t1 hSW
      have g1 := cell_g b2 hSW
      have g2 := cell_g b3 hSW
      have g3 := cell_g br0 hSW
      have g4 := cell_g br1 hSW
      have g5 := cell_g br2 hSW
      have g6 := cell_g cr0 hSW
      have g7 := cell_g cr1 hSW
      have g8 := cell_g cr2 hSW
      go_simp
      try with_reducible rfl
    try simp only [Act.put, List.setIfInBounds_toArray, List.set_cons_zero, List.set_cons_succ]
    refine take_at (i := 10) (d := 17) (v := ?_) rfl rfl (by kernel_rfl) (by kernel_rfl) (by kernel_rfl) (fun _ _ _ h => h) (Or.inl ⟨by rfl, ?_⟩) (by assumption) ?_
    rotate_left
    · intro W hSW
      try dsimp only at hSW
      have g0 := cell_g t1 hSW
      have g1 := cell_g b2 hSW
      have g2 := cell_g b3 hSW
      have g3 := cell_g br0 hSW
      have g4 := cell_g br1 hSW
      have g5 := cell_g br2 hSW
      have g6 := cell_g cr0 hSW
      have g7 := cell_g cr1 hSW
      have g8 := cell_g cr2 hSW
      go_simp
      try with_reducible rfl
    try simp only [Act.put, List.setIfInBounds_toArray, List.set_cons_zero, List.set_cons_succ]
    refine take_at (i := 11) (d := 18) (v := ?_) rfl rfl (by kernel_rfl) (by kernel_rfl) (by kernel_rfl) (fun _ _ _ h => h) (Or.inl ⟨by rfl, ?_⟩) (by assumption) ?_
    rotate_left
    · intro W hSW
      try dsimp only at hSW
      have g0 := cell_g t1 hSW
      have g1 := cell_g b2 hSW
      have g2 := cell_g b3 hSW
      have g3 := cell_g br0 hSW
      have g4 := cell_g br1 hSW
      have g5 := cell_g br2 hSW
      have g6 := cell_g cr0 hSW
      have g7 := cell_g cr1 hSW
      have g8 := cell_g cr2 hSW
      go_simp
      try with_reducible rfl
    try simp only [Act.put, List.setIfInBounds_toArray, List.set_cons_zero, List.set_cons_succ]
    refine take_at (i := 12) (d := 19) (v := ?_) rfl rfl (by kernel_rfl) (by kernel_rfl) (by kernel_rfl) (fun _ _ _ h => h) (Or.inl ⟨by rfl, ?_⟩) (by assumption) ?_
    rotate_left
    · intro W hSW
      try dsimp only at hSW
      have g0 := cell_g t1 hSW
      have g1 := cell_g b2 hSW
      have g2 := cell_g b3 hSW
      have g3 := cell_g br0 hSW
      have g4 := cell_g br1 hSW
      have g5 := cell_g br2 hSW
      have g6 := cell_g cr0 hSW
      have g7 := cell_g cr1 hSW
      have g8 := cell_g cr2 hSW
      go_simp
      try with_reducible rfl
    try simp only [Act.put, List.setIfInBounds_toArray, List.set_cons_zero, List.set_cons_succ]
    refine take_at (i := 13) (d := 20) (v := ?_) rfl rfl (by kernel_rfl) (by kernel_rfl) (by kernel_rfl) (fun _ _ _ h => h) (Or.inl ⟨by rfl, ?_⟩) (by assumption) ?_
    rotate_left
    · intro W hSW
      try dsimp only at hSW
      have g0 := cell_g t1 hSW
      have g1 := cell_g b2 hSW
      have g2 := cell_g b3 hSW
      have g3 := cell_g br0 hSW
      have g4 := cell_g br1 hSW
      have g5 := cell_g br2 hSW
      have g6 := cell_g cr0 hSW
      have g7 := cell_g cr1 hSW
      have g8 := cell_g cr2 hSW
      go_simp
      try with_reducible rfl
    try simp only [Act.put, List.setIfInBounds_toArray, List.set_cons_zero, List.set_cons_succ]
    refine take_at (i := 14) (d := 21) (v := ?_) rfl rfl (by kernel_rfl) (by kernel_rfl) (by kernel_rfl) (fun _ _ _ h => h) (Or.inl ⟨by rfl, ?_⟩) (by assumption) ?_
    rotate_left
    · intro W hSW
      try dsimp only at hSW
      have g0 := cell_g t1 hSW
      have g1 := cell_g b2 hSW
      have g2 := cell_g b3 hSW
      have g3 := cell_g br0 hSW
      have g4 := cell_g br1 hSW
      have g5 := cell_g br2 hSW
      have g6 := cell_g cr0 hSW
      have g7 := cell_g cr1 hSW
      have g8 := cell_g cr2 hSW
      go_simp
      try with_reducible rfl
    try simp only [Act.put, List.setIfInBounds_toArray, List.set_cons_zero, List.set_cons_succ]
    refine take_at (i := 15) (d := 22) (v := ?_) rfl rfl (by kernel_rfl) (by kernel_rfl) (by kernel_rfl) (fun _ _ _ h => h) (Or.inl ⟨by rfl, ?_⟩) (by assumption) ?_
    rotate_left
    · intro W hSW
      try dsimp only at hSW
      have g0 := cell_g t1 hSW
      have g1 := cell_g b2 hSW
      have g2 := cell_g b3 hSW
      have g3 := cell_g br0 hSW
      have g4 := cell_g br1 hSW
      have g5 := cell_g br2 hSW
      have g6 := cell_g cr0 hSW
      have g7 := cell_g cr1 hSW
      have g8 := cell_g cr2 hSW
      go_simp
      try with_reducible rfl
    try simp only [Act.put, List.setIfInBounds_toArray, List.set_cons_zero, List.set_cons_succ]
    refine wpAnyH_ready (rs := [16, 17]) (by kernel_rfl) (by simp) ?_
    refine AllReadyH.cons rfl (fun K hK => ?_) ?_
    · go_simp
      have G1 : W.grownBy (World.drew (World.alloc W (.cells #[.int .i64 0, .int .i64 0, .string ⟨#[]⟩] 31))) none := grown_up (World.grownBy_alloc W (.cells #[.int .i64 0, .int .i64 0, .string ⟨#[]⟩] 31) none) (grown_dr _)
      refine hK.out _ _ (G1) (fun hHeld => ?_)
      clear hK K
      try simp only [Act.put, List.setIfInBounds_toArray, List.set_cons_zero, List.set_cons_succ]
      have U16 : Vb (World.drew (World.alloc W (.cells #[.int .i64 0, .int .i64 0, .string ⟨#[]⟩] 31))) W.heap.size ⟨0, 0, ⟨#[]⟩⟩ := (Vb.new W ⟨0, 0, ⟨#[]⟩⟩).kept (grown_dr _) (by simp)
      generalize (World.drew (World.alloc W (.cells #[.int .i64 0, .int .i64 0, .string ⟨#[]⟩] 31))) = y1 at *
      obtain ⟨p16, hq16⟩ : ∃ p, W.heap.size = p := ⟨_, rfl⟩
      have hp16 : W.heap.size ≤ p16 := Nat.le_of_eq hq16
      rw [hq16] at U16 ⊢
      have hl16 := U16.lt
      refine wpAnyH_ready (rs := [17]) (by kernel_rfl) (by simp) ?_
      refine AllReadyH.cons rfl (fun K hK => ?_) ?_
      · go_simp
        have G2 : W.grownBy (World.alloc y1 (.cells #[.int .i64 0, .int .i64 0, .string ⟨#[]⟩] 31)) none := grown_up G1 (World.grownBy_alloc y1 (.cells #[.int .i64 0, .int .i64 0, .string ⟨#[]⟩] 31) none)
        refine hK.out _ _ (G2) (fun hHeld => ?_)
        clear hK K
        try simp only [Act.put, List.setIfInBounds_toArray, List.set_cons_zero, List.set_cons_succ]
        have U16 := U16.kept (World.grownBy_alloc y1 (.cells #[.int .i64 0, .int .i64 0, .string ⟨#[]⟩] 31) none) (by simp)
        have U17 : Vb (World.alloc y1 (.cells #[.int .i64 0, .int .i64 0, .string ⟨#[]⟩] 31)) y1.heap.size ⟨0, 0, ⟨#[]⟩⟩ := Vb.new y1 ⟨0, 0, ⟨#[]⟩⟩
        generalize (World.alloc y1 (.cells #[.int .i64 0, .int .i64 0, .string ⟨#[]⟩] 31)) = y2 at *
        obtain ⟨p17, hq17⟩ : ∃ p, y1.heap.size = p := ⟨_, rfl⟩
        have hp17 : W.heap.size ≤ p17 := hq17 ▸ G1.size
        rw [hq17] at U17 hl16 ⊢
        refine wpAnyH_ready (rs := [18]) (by kernel_rfl) (by simp) ?_
        refine AllReadyH.cons rfl (fun K hK => ?_) ?_
        · have v0 := U16.c0
          have v1 := U16.c1
          have v2 := U16.c2
          have vf := U16.fz
          dsimp only at v0 v1 v2
          go_simp
          have hP := vb_set U16 (S.at (b : Int))
          have G3 := grown_new G2 hP.2 (fun j e => by cases e; exact hp16)
          refine hK.out _ _ (G3) (fun hHeld => ?_)
          clear hK K
          try simp only [Act.put, List.setIfInBounds_toArray, List.set_cons_zero, List.set_cons_succ]
          have U16 := hP.1
          have U17 := U17.kept hP.2 (by simp; omega)
          clear v0 v1 v2 vf hP
          generalize ((y2.setCell ⟨p16, 0, none⟩ (.int .i64 (S.at (b : Int)).k)).setCell ⟨p16, 1, none⟩ (.int .i64 (S.at (b : Int)).n)).setCell ⟨p16, 2, none⟩ (.string (S.at (b : Int)).s) = y3 at *
          refine wpAnyH_ready (rs := [19]) (by kernel_rfl) (by simp) ?_
          refine AllReadyH.cons rfl (fun K hK => ?_) ?_
          · have v0 := U17.c0
            have v1 := U17.c1
            have v2 := U17.c2
            have vf := U17.fz
            dsimp only at v0 v1 v2
            go_simp
            have hP := vb_set U17 (S.at (c : Int))
            have G4 := grown_new G3 hP.2 (fun j e => by cases e; exact hp17)
            refine hK.out _ _ (G4) (fun hHeld => ?_)
            clear hK K
            try simp only [Act.put, List.setIfInBounds_toArray, List.set_cons_zero, List.set_cons_succ]
            refine wpAnyH_done (by kernel_rfl) ?_ _
            have U16 := U16.kept hP.2 (by simp; omega)
            go_wp2_with fail
            go_meet
            exact ⟨p16, p17, rfl, rfl, U16, hP.1, hp16, hp17, by omega, G4⟩
          exact AllReadyH.nil
        exact AllReadyH.nil
      exact AllReadyH.nil
    refine AllReadyH.cons rfl (fun K hK => ?_) ?_
    · go_simp
      have G1 : W.grownBy (World.drew (World.alloc W (.cells #[.int .i64 0, .int .i64 0, .string ⟨#[]⟩] 31))) none := grown_up (World.grownBy_alloc W (.cells #[.int .i64 0, .int .i64 0, .string ⟨#[]⟩] 31) none) (grown_dr _)
      refine hK.out _ _ (G1) (fun hHeld => ?_)
      clear hK K
      try simp only [Act.put, List.setIfInBounds_toArray, List.set_cons_zero, List.set_cons_succ]
      have U17 : Vb (World.drew (World.alloc W (.cells #[.int .i64 0, .int .i64 0, .string ⟨#[]⟩] 31))) W.heap.size ⟨0, 0, ⟨#[]⟩⟩ := (Vb.new W ⟨0, 0, ⟨#[]⟩⟩).kept (grown_dr _) (by simp)
      generalize (World.drew (World.alloc W (.cells #[.int .i64 0, .int .i64 0, .string ⟨#[]⟩] 31))) = y1 at *
      obtain ⟨p17, hq17⟩ : ∃ p, W.heap.size = p := ⟨_, rfl⟩
      have hp17 : W.heap.size ≤ p17 := Nat.le_of_eq hq17
      rw [hq17] at U17 ⊢
      have hl17 := U17.lt
      refine wpAnyH_ready (rs := [16]) (by kernel_rfl) (by simp) ?_
      refine AllReadyH.cons rfl (fun K hK => ?_) ?_
      · go_simp
        have G2 : W.grownBy (World.alloc y1 (.cells #[.int .i64 0, .int .i64 0, .string ⟨#[]⟩] 31)) none := grown_up G1 (World.grownBy_alloc y1 (.cells #[.int .i64 0, .int .i64 0, .string ⟨#[]⟩] 31) none)
        refine hK.out _ _ (G2) (fun hHeld => ?_)
        clear hK K
        try simp only [Act.put, List.setIfInBounds_toArray, List.set_cons_zero, List.set_cons_succ]
        have U17 := U17.kept (World.grownBy_alloc y1 (.cells #[.int .i64 0, .int .i64 0, .string ⟨#[]⟩] 31) none) (by simp)
        have U16 : Vb (World.alloc y1 (.cells #[.int .i64 0, .int .i64 0, .string ⟨#[]⟩] 31)) y1.heap.size ⟨0, 0, ⟨#[]⟩⟩ := Vb.new y1 ⟨0, 0, ⟨#[]⟩⟩
        generalize (World.alloc y1 (.cells #[.int .i64 0, .int .i64 0, .string ⟨#[]⟩] 31)) = y2 at *
        obtain ⟨p16, hq16⟩ : ∃ p, y1.heap.size = p := ⟨_, rfl⟩
        have hp16 : W.heap.size ≤ p16 := hq16 ▸ G1.size
        rw [hq16] at U16 hl17 ⊢
        refine wpAnyH_ready (rs := [18]) (by kernel_rfl) (by simp) ?_
        refine AllReadyH.cons rfl (fun K hK => ?_) ?_
        · have v0 := U16.c0
          have v1 := U16.c1
          have v2 := U16.c2
          have vf := U16.fz
          dsimp only at v0 v1 v2
          go_simp
          have hP := vb_set U16 (S.at (b : Int))
          have G3 := grown_new G2 hP.2 (fun j e => by cases e; exact hp16)
          refine hK.out _ _ (G3) (fun hHeld => ?_)
          clear hK K
          try simp only [Act.put, List.setIfInBounds_toArray, List.set_cons_zero, List.set_cons_succ]
          have U16 := hP.1
          have U17 := U17.kept hP.2 (by simp; omega)
          clear v0 v1 v2 vf hP
          generalize ((y2.setCell ⟨p16, 0, none⟩ (.int .i64 (S.at (b : Int)).k)).setCell ⟨p16, 1, none⟩ (.int .i64 (S.at (b : Int)).n)).setCell ⟨p16, 2, none⟩ (.string (S.at (b : Int)).s) = y3 at *
          refine wpAnyH_ready (rs := [19]) (by kernel_rfl) (by simp) ?_
          refine AllReadyH.cons rfl (fun K hK => ?_) ?_
          · have v0 := U17.c0
            have v1 := U17.c1
            have v2 := U17.c2
            have vf := U17.fz
            dsimp only at v0 v1 v2
            go_simp
            have hP := vb_set U17 (S.at (c : Int))
            have G4 := grown_new G3 hP.2 (fun j e => by cases e; exact hp17)
            refine hK.out _ _ (G4) (fun hHeld => ?_)
            clear hK K
            try simp only [Act.put, List.setIfInBounds_toArray, List.set_cons_zero, List.set_cons_succ]
            refine wpAnyH_done (by kernel_rfl) ?_ _
            have U16 := U16.kept hP.2 (by simp; omega)
            go_wp2_with fail
            go_meet
            exact ⟨p16, p17, rfl, rfl, U16, hP.1, hp16, hp17, by omega, G4⟩
          exact AllReadyH.nil
        exact AllReadyH.nil
      exact AllReadyH.nil
    exact AllReadyH.nil
  case rest =>
    obtain ⟨p, p', rfl, rfl, hA, hC, hpa, hpc, hpp, hg4⟩ := hcut
    have hM4 := hM1.keptN hg4
    have hb4 := hb.kept hg4 (by simp)
    have HG4 := hide (HG1.out.then (kp_n hg4))
    clear dr t1 b0 b1 b2 b3 b4 b5 b6 br0 br1 br2 cr0 cr1 cr2 rf hM1 hb HG1 hg4
    generalize wc = W2 at *
    have a0 := hA.c0
    have a1 := hA.c1
    have a2 := hA.c2
    have c0 := hC.c0
    have c1 := hC.c1
    have c2 := hC.c2
    have HE : Hid ((if (S.at (b : Int)).k = 1 ∧ (S.at (c : Int)).k = 1 then Rs.go (S.set (a : Int) (nV (wrap64 ((S.at (b : Int)).n + (S.at (c : Int)).n)))) else Rs.bad) = R) := HR.out
    by_cases hk : (S.at (b : Int)).k = 1 ∧ (S.at (c : Int)).k = 1
    · obtain ⟨hk1, hk2⟩ := hk
      have e := HE.out
      rw [if_pos ⟨hk1, hk2⟩] at e
      rw [← w_add] at e
      obtain ⟨N, HN⟩ : ∃ N, Hid (IntKind.u64.wrap (IntKind.u64.wrap (S.at (b : Int)).n + IntKind.u64.wrap (S.at (c : Int)).n) = N) := ⟨_, rfl⟩
      rw [HN.out] at e
      subst e
      clear HR HE
      rw [hk1] at a0
      rw [hk2] at c0
      obtain ⟨b0, b1, b2, b3, b4, b5, b6⟩ := hb4.cs
      dsimp only at b0 b1 b2 b3 b4 b5 b6
      go_upto_region 9 with fail
      rw [HN.out]
      have t1 := hM4.tb.c1
      obtain ⟨ar0, ar1, ar2, rf⟩ := xg_cells hM4 h6 a la
      have hcv := i_wrap N
      clear HN a0 a1 a2 c0 c1 c2 hA hC b2 b3
      go_region
      go_wp2
      go_end0
      try rw [hcv]
      exact xset_done hM4 HG4.out h6 a la _
    · have e := HE.out
      rw [if_neg hk] at e
      subst e
      by_cases hk1 : (S.at (b : Int)).k = 1
      · have hk2 : ¬ (S.at (c : Int)).k = 1 := fun h => hk ⟨hk1, h⟩
        have z2 : ((S.at (c : Int)).k != 1) = true := by simp [hk2]
        rw [hk1] at a0
        have bf := hM4.tb.fz 13
        have bc := hM4.tb.c13
        have hB := hM4.sBd true
        have HK := hide (HG4.out.then (kp_of hB.2 hM4.gB))
        go_wp2
        go_end0
        exact ⟨rfl, ⟨_, _, _, _, _, _, _, _, hB.1⟩, HK.out⟩
      · have z1 : ((S.at (b : Int)).k != 1) = true := by simp [hk1]
        have bf := hM4.tb.fz 13
        have bc := hM4.tb.c13
        have hB := hM4.sBd true
        have HK := hide (HG4.out.then (kp_of hB.2 hM4.gB))
        go_wp2
        go_end0
        exact ⟨rfl, ⟨_, _, _, _, _, _, _, _, hB.1⟩, HK.out⟩
set_option maxRecDepth 100000 in
set_option maxHeartbeats 4000000 in
theorem xsum_sub (B : Bd) (g : Nat) (tv rv pv ov kv : Value) (S : Ms) (x : V) (a : Nat) (b : Nat) (c : Nat) (la : a < 6) (lb : b < 6) (lc : c < 6) (w : World) (hM : Xm B w g tv S 0 zV false false rv pv ov kv) (h6 : S.rg.length = 6) (hp0 : 0 ≤ S.pc) (hp1 : S.pc ≤ 1000) (hnb : (S.at (b : Int)).wf) (hnc : (S.at (c : Int)).wf) :
    Calls Tryz.prog 42 #[.pointer (some ⟨g, 0, none⟩), (⟨4, (a : Int), (b : Int), (c : Int), x⟩ : In).val] w fun e w' => XP B w g tv (S.sum (⟨4, (a : Int), (b : Int), (c : Int), x⟩ : In) (· - ·)) e w' := by
  obtain ⟨r, cap, rfl, hBr, hr, hrg⟩ := xt_cells hM h6
  have hgb := World.grownBy_alloc w (.cells #[.int .i64 4, .int .i64 (a : Int), .int .i64 (b : Int), .int .i64 (c : Int), .int .i64 x.k, .int .i64 x.n, .string x.s] 44) none
  have hb : Ib (w.alloc (.cells #[.int .i64 4, .int .i64 (a : Int), .int .i64 (b : Int), .int .i64 (c : Int), .int .i64 x.k, .int .i64 x.n, .string x.s] 44)) w.heap.size ⟨4, (a : Int), (b : Int), (c : Int), x⟩ := Ib.new w ⟨4, (a : Int), (b : Int), (c : Int), x⟩
  have hM1 := hM.keptN hgb
  have la' : (a : Int) < 6 := by omega
  have lb' : (b : Int) < 6 := by omega
  have lc' : (c : Int) < 6 := by omega
  obtain ⟨R, HR⟩ : ∃ R, Hid (S.sum (⟨4, (a : Int), (b : Int), (c : Int), x⟩ : In) (· - ·) = R) := ⟨_, rfl⟩
  rw [HR.out]
  unfold In.val
  dsimp only
  go_enter Tryz.func42, Tryz.ntmps42
  go_upto_region 1 with fail
  have HG1 := hide (kp_n (B := B) hgb)
  generalize w.alloc (.cells #[.int .i64 4, .int .i64 (a : Int), .int .i64 (b : Int), .int .i64 (c : Int), .int .i64 x.k, .int .i64 x.n, .string x.s] 44) = W at *
  have hqg : g < w.heap.size := hM.lt
  generalize hq : w.heap.size = q at *
  obtain ⟨b0, b1, b2, b3, b4, b5, b6⟩ := hb.cs
  dsimp only at b0 b1 b2 b3 b4 b5 b6
  have t1 := hM1.tb.c1
  obtain ⟨br0, br1, br2, rf⟩ := xg_cells hM1 h6 b lb
  obtain ⟨cr0, cr1, cr2, rf⟩ := xg_cells hM1 h6 c lc
  have dr := grown_dr W
  go_cut [4, 5] from 7 to 22 (fun t4 t5 W4 => ∃ p16 p17, t4 = .pointer (some ⟨p16, 0, none⟩) ∧ t5 = .pointer (some ⟨p17, 0, none⟩) ∧ Vb W4 p16 (S.at (b : Int)) ∧ Vb W4 p17 (S.at (c : Int)) ∧ W.heap.size ≤ p16 ∧ W.heap.size ≤ p17 ∧ p16 ≠ p17 ∧ W.grownBy W4 none)
  case first =>
    refine wp_region_held_drew (S := fun W0 => W.grownBy W0 none) (by kernel_rfl) (dr) (fun hHeld => ?_)
    refine take_at (i := 0) (d := 7) (v := ?_) rfl rfl (by kernel_rfl) (by kernel_rfl) (by kernel_rfl) (fun _ _ _ h => h) (Or.inl ⟨by rfl, ?_⟩) (by assumption) ?_
    rotate_left
    · intro W hSW
      try dsimp only at hSW
      have g0 := cell_g t1 hSW
      have g1 := cell_g b2 hSW
      have g2 := cell_g b3 hSW
      have g3 := cell_g br0 hSW
      have g4 := cell_g br1 hSW
      have g5 := cell_g br2 hSW
      have g6 := cell_g cr0 hSW
      have g7 := cell_g cr1 hSW
      have g8 := cell_g cr2 hSW
      go_simp
      try with_reducible rfl
    try simp only [Act.put, List.setIfInBounds_toArray, List.set_cons_zero, List.set_cons_succ]
    refine take_at (i := 1) (d := 8) (v := ?_) rfl rfl (by kernel_rfl) (by kernel_rfl) (by kernel_rfl) (fun _ _ _ h => h) (Or.inl ⟨by rfl, ?_⟩) (by assumption) ?_
    rotate_left
    · intro W hSW
      try dsimp only at hSW
      have g0 := cell_g t1 hSW
      have g1 := cell_g b2 hSW
      have g2 := cell_g b3 hSW
      have g3 := cell_g br0 hSW
      have g4 := cell_g br1 hSW
      have g5 := cell_g br2 hSW
      have g6 := cell_g cr0 hSW
      have g7 := cell_g cr1 hSW
      have g8 := cell_g cr2 hSW
      go_simp
      try with_reducible rfl
    try simp only [Act.put, List.setIfInBounds_toArray, List.set_cons_zero, List.set_cons_succ]
    refine take_at (i := 2) (d := 9) (v := ?_) rfl rfl (by kernel_rfl) (by kernel_rfl) (by kernel_rfl) (fun _ _ _ h => h) (Or.inl ⟨by rfl, ?_⟩) (by assumption) ?_
    rotate_left
    · intro W hSW
      try dsimp only at hSW
      have g0 := cell_g t1 hSW
      have g1 := cell_g b2 hSW
      have g2 := cell_g b3 hSW
      have g3 := cell_g br0 hSW
      have g4 := cell_g br1 hSW
      have g5 := cell_g br2 hSW
      have g6 := cell_g cr0 hSW
      have g7 := cell_g cr1 hSW
      have g8 := cell_g cr2 hSW
      go_simp
      try with_reducible rfl
    try simp only [Act.put, List.setIfInBounds_toArray, List.set_cons_zero, List.set_cons_succ]
    refine take_at (i := 3) (d := 10) (v := ?_) rfl rfl (by kernel_rfl) (by kernel_rfl) (by kernel_rfl) (fun _ _ _ h => h) (Or.inl ⟨by rfl, ?_⟩) (by assumption) ?_
    rotate_left
    · intro W hSW
      try dsimp only at hSW
      have g0 := cell_g t1 hSW
      have g1 := cell_g b2 hSW
      have g2 := cell_g b3 hSW
      have g3 := cell_g br0 hSW
      have g4 := cell_g br1 hSW
      have g5 := cell_g br2 hSW
      have g6 := cell_g cr0 hSW
      have g7 := cell_g cr1 hSW
      have g8 := cell_g cr2 hSW
      go_simp
      try with_reducible rfl
    try simp only [Act.put, List.setIfInBounds_toArray, List.set_cons_zero, List.set_cons_succ]
    refine take_at (i := 4) (d := 11) (v := ?_) rfl rfl (by kernel_rfl) (by kernel_rfl) (by kernel_rfl) (fun _ _ _ h => h) (Or.inl ⟨by rfl, ?_⟩) (by assumption) ?_
    rotate_left
    · intro W hSW
      try dsimp only at hSW
      have g0 := cell_g t1 hSW
      have g1 := cell_g b2 hSW
      have g2 := cell_g b3 hSW
      have g3 := cell_g br0 hSW
      have g4 := cell_g br1 hSW
      have g5 := cell_g br2 hSW
      have g6 := cell_g cr0 hSW
      have g7 := cell_g cr1 hSW
      have g8 := cell_g cr2 hSW
      go_simp
      try with_reducible rfl
    try simp only [Act.put, List.setIfInBounds_toArray, List.set_cons_zero, List.set_cons_succ]
    refine take_at (i := 5) (d := 12) (v := ?_) rfl rfl (by kernel_rfl) (by kernel_rfl) (by kernel_rfl) (fun _ _ _ h => h) (Or.inl ⟨by rfl, ?_⟩) (by assumption) ?_
    rotate_left
    · intro W hSW
      try dsimp only at hSW
      have g0 := cell_g t1 hSW
      have g1 := cell_g b2 hSW
      have g2 := cell_g b3 hSW
      have g3 := cell_g br0 hSW
      have g4 := cell_g br1 hSW
      have g5 := cell_g br2 hSW
      have g6 := cell_g cr0 hSW
      have g7 := cell_g cr1 hSW
      have g8 := cell_g cr2 hSW
      go_simp
      try with_reducible rfl
    try simp only [Act.put, List.setIfInBounds_toArray, List.set_cons_zero, List.set_cons_succ]
    refine take_at (i := 6) (d := 13) (v := ?_) rfl rfl (by kernel_rfl) (by kernel_rfl) (by kernel_rfl) (fun _ _ _ h => h) (Or.inl ⟨by rfl, ?_⟩) (by assumption) ?_
    rotate_left
    · intro W hSW
      try dsimp only at hSW
      have g0 := cell_g t1 hSW
      have g1 := cell_g b2 hSW
      have g2 := cell_g b3 hSW
      have g3 := cell_g br0 hSW
      have g4 := cell_g br1 hSW
      have g5 := cell_g br2 hSW
      have g6 := cell_g cr0 hSW
      have g7 := cell_g cr1 hSW
      have g8 := cell_g cr2 hSW
      go_simp
      try with_reducible rfl
    try simp only [Act.put, List.setIfInBounds_toArray, List.set_cons_zero, List.set_cons_succ]
    refine take_at (i := 7) (d := 14) (v := ?_) rfl rfl (by kernel_rfl) (by kernel_rfl) (by kernel_rfl) (fun _ _ _ h => h) (Or.inl ⟨by rfl, ?_⟩) (by assumption) ?_
    rotate_left
    · intro W hSW
      try dsimp only at hSW
      have g0 := cell_g t1 hSW
      have g1 := cell_g b2 hSW
      have g2 := cell_g b3 hSW
      have g3 := cell_g br0 hSW
      have g4 := cell_g br1 hSW
      have g5 := cell_g br2 hSW
      have g6 := cell_g cr0 hSW
      have g7 := cell_g cr1 hSW
      have g8 := cell_g cr2 hSW
      go_simp
      try with_reducible rfl
    try simp only [Act.put, List.setIfInBounds_toArray, List.set_cons_zero, List.set_cons_succ]
    refine take_at (i := 8) (d := 15) (v := ?_) rfl rfl (by kernel_rfl) (by kernel_rfl) (by kernel_rfl) (fun _ _ _ h => h) (Or.inl ⟨by rfl, ?_⟩) (by assumption) ?_
    rotate_left
    · intro W hSW
      try dsimp only at hSW
      have g0 := cell_g t1 hSW
      have g1 := cell_g b2 hSW
      have g2 := cell_g b3 hSW
      have g3 := cell_g br0 hSW
      have g4 := cell_g br1 hSW
      have g5 := cell_g br2 hSW
      have g6 := cell_g cr0 hSW
      have g7 := cell_g cr1 hSW
      have g8 := cell_g cr2 hSW
      go_simp
      try with_reducible rfl
    try simp only [Act.put, List.setIfInBounds_toArray, List.set_cons_zero, List.set_cons_succ]
    refine take_at (i := 9) (d := 16) (v := ?_) rfl rfl (by kernel_rfl) (by kernel_rfl) (by kernel_rfl) (fun _ _ _ h => h) (Or.inl ⟨by rfl, ?_⟩) (by assumption) ?_
    rotate_left
    · intro W hSW
      try dsimp only at hSW
      have g0 := cell_g t1 hSW
      have g1 := cell_g b2 hSW
      have g2 := cell_g b3 hSW
      have g3 := cell_g br0 hSW
      have g4 := cell_g br1 hSW
      have g5 := cell_g br2 hSW
      have g6 := cell_g cr0 hSW
      have g7 := cell_g cr1 hSW
      have g8 := cell_g cr2 hSW
      go_simp
      try with_reducible rfl
    try simp only [Act.put, List.setIfInBounds_toArray, List.set_cons_zero, List.set_cons_succ]
    refine take_at (i := 10) (d := 17) (v := ?_) rfl rfl (by kernel_rfl) (by kernel_rfl) (by kernel_rfl) (fun _ _ _ h => h) (Or.inl ⟨by rfl, ?_⟩) (by assumption) ?_
    rotate_left
    · intro W hSW
      try dsimp only at hSW
      have g0 := cell_g t1 hSW
      have g1 := cell_g b2 hSW
      have g2 := cell_g b3 hSW
      have g3 := cell_g br0 hSW
      have g4 := cell_g br1 hSW
      have g5 := cell_g br2 hSW
      have g6 := cell_g cr0 hSW
      have g7 := cell_g cr1 hSW
      have g8 := cell_g cr2 hSW
      go_simp
      try with_reducible rfl
    try simp only [Act.put, List.setIfInBounds_toArray, List.set_cons_zero, List.set_cons_succ]
    refine take_at (i := 11) (d := 18) (v := ?_) rfl rfl (by kernel_rfl) (by kernel_rfl) (by kernel_rfl) (fun _ _ _ h => h) (Or.inl ⟨by rfl, ?_⟩) (by assumption) ?_
    rotate_left
    · intro W hSW
      try dsimp only at hSW
      have g0 := cell_g t1 hSW
      have g1 := cell_g b2 hSW
      have g2 := cell_g b3 hSW
      have g3 := cell_g br0 hSW
      have g4 := cell_g br1 hSW
      have g5 := cell_g br2 hSW
      have g6 := cell_g cr0 hSW
      have g7 := cell_g cr1 hSW
      have g8 := cell_g cr2 hSW
      go_simp
      try with_reducible rfl
    try simp only [Act.put, List.setIfInBounds_toArray, List.set_cons_zero, List.set_cons_succ]
    refine take_at (i := 12) (d := 19) (v := ?_) rfl rfl (by kernel_rfl) (by kernel_rfl) (by kernel_rfl) (fun _ _ _ h => h) (Or.inl ⟨by rfl, ?_⟩) (by assumption) ?_
    rotate_left
    · intro W hSW
      try dsimp only at hSW
      have g0 := cell_g t1 hSW
      have g1 := cell_g b2 hSW
      have g2 := cell_g b3 hSW
      have g3 := cell_g br0 hSW
      have g4 := cell_g br1 hSW
      have g5 := cell_g br2 hSW
      have g6 := cell_g cr0 hSW
      have g7 := cell_g cr1 hSW
      have g8 := cell_g cr2 hSW
      go_simp
      try with_reducible rfl
    try simp only [Act.put, List.setIfInBounds_toArray, List.set_cons_zero, List.set_cons_succ]
    refine take_at (i := 13) (d := 20) (v := ?_) rfl rfl (by kernel_rfl) (by kernel_rfl) (by kernel_rfl) (fun _ _ _ h => h) (Or.inl ⟨by rfl, ?_⟩) (by assumption) ?_
    rotate_left
    · intro W hSW
      try dsimp only at hSW
      have g0 := cell_g t1 hSW
      have g1 := cell_g b2 hSW
      have g2 := cell_g b3 hSW
      have g3 := cell_g br0 hSW
      have g4 := cell_g br1 hSW
      have g5 := cell_g br2 hSW
      have g6 := cell_g cr0 hSW
      have g7 := cell_g cr1 hSW
      have g8 := cell_g cr2 hSW
      go_simp
      try with_reducible rfl
    try simp only [Act.put, List.setIfInBounds_toArray, List.set_cons_zero, List.set_cons_succ]
    refine take_at (i := 14) (d := 21) (v := ?_) rfl rfl (by kernel_rfl) (by kernel_rfl) (by kernel_rfl) (fun _ _ _ h => h) (Or.inl ⟨by rfl, ?_⟩) (by assumption) ?_
    rotate_left
    · intro W hSW
      try dsimp only at hSW
      have g0 := cell_g t1 hSW
      have g1 := cell_g b2 hSW
      have g2 := cell_g b3 hSW
      have g3 := cell_g br0 hSW
      have g4 := cell_g br1 hSW
      have g5 := cell_g br2 hSW
      have g6 := cell_g cr0 hSW
      have g7 := cell_g cr1 hSW
      have g8 := cell_g cr2 hSW
      go_simp
      try with_reducible rfl
    try simp only [Act.put, List.setIfInBounds_toArray, List.set_cons_zero, List.set_cons_succ]
    refine take_at (i := 15) (d := 22) (v := ?_) rfl rfl (by kernel_rfl) (by kernel_rfl) (by kernel_rfl) (fun _ _ _ h => h) (Or.inl ⟨by rfl, ?_⟩) (by assumption) ?_
    rotate_left
    · intro W hSW
      try dsimp only at hSW
      have g0 := cell_g t1 hSW
      have g1 := cell_g b2 hSW
      have g2 := cell_g b3 hSW
      have g3 := cell_g br0 hSW
      have g4 := cell_g br1 hSW
      have g5 := cell_g br2 hSW
      have g6 := cell_g cr0 hSW
      have g7 := cell_g cr1 hSW
      have g8 := cell_g cr2 hSW
      go_simp
      try with_reducible rfl
    try simp only [Act.put, List.setIfInBounds_toArray, List.set_cons_zero, List.set_cons_succ]
    refine wpAnyH_ready (rs := [16, 17]) (by kernel_rfl) (by simp) ?_
    refine AllReadyH.cons rfl (fun K hK => ?_) ?_
    · go_simp
      have G1 : W.grownBy (World.drew (World.alloc W (.cells #[.int .i64 0, .int .i64 0, .string ⟨#[]⟩] 31))) none := grown_up (World.grownBy_alloc W (.cells #[.int .i64 0, .int .i64 0, .string ⟨#[]⟩] 31) none) (grown_dr _)
      refine hK.out _ _ (G1) (fun hHeld => ?_)
      clear hK K
      try simp only [Act.put, List.setIfInBounds_toArray, List.set_cons_zero, List.set_cons_succ]
      have U16 : Vb (World.drew (World.alloc W (.cells #[.int .i64 0, .int .i64 0, .string ⟨#[]⟩] 31))) W.heap.size ⟨0, 0, ⟨#[]⟩⟩ := (Vb.new W ⟨0, 0, ⟨#[]⟩⟩).kept (grown_dr _) (by simp)
      generalize (World.drew (World.alloc W (.cells #[.int .i64 0, .int .i64 0, .string ⟨#[]⟩] 31))) = y1 at *
      obtain ⟨p16, hq16⟩ : ∃ p, W.heap.size = p := ⟨_, rfl⟩
      have hp16 : W.heap.size ≤ p16 := Nat.le_of_eq hq16
      rw [hq16] at U16 ⊢
      have hl16 := U16.lt
      refine wpAnyH_ready (rs := [17]) (by kernel_rfl) (by simp) ?_
      refine AllReadyH.cons rfl (fun K hK => ?_) ?_
      · go_simp
        have G2 : W.grownBy (World.alloc y1 (.cells #[.int .i64 0, .int .i64 0, .string ⟨#[]⟩] 31)) none := grown_up G1 (World.grownBy_alloc y1 (.cells #[.int .i64 0, .int .i64 0, .string ⟨#[]⟩] 31) none)
        refine hK.out _ _ (G2) (fun hHeld => ?_)
        clear hK K
        try simp only [Act.put, List.setIfInBounds_toArray, List.set_cons_zero, List.set_cons_succ]
        have U16 := U16.kept (World.grownBy_alloc y1 (.cells #[.int .i64 0, .int .i64 0, .string ⟨#[]⟩] 31) none) (by simp)
        have U17 : Vb (World.alloc y1 (.cells #[.int .i64 0, .int .i64 0, .string ⟨#[]⟩] 31)) y1.heap.size ⟨0, 0, ⟨#[]⟩⟩ := Vb.new y1 ⟨0, 0, ⟨#[]⟩⟩
        generalize (World.alloc y1 (.cells #[.int .i64 0, .int .i64 0, .string ⟨#[]⟩] 31)) = y2 at *
        obtain ⟨p17, hq17⟩ : ∃ p, y1.heap.size = p := ⟨_, rfl⟩
        have hp17 : W.heap.size ≤ p17 := hq17 ▸ G1.size
        rw [hq17] at U17 hl16 ⊢
        refine wpAnyH_ready (rs := [18]) (by kernel_rfl) (by simp) ?_
        refine AllReadyH.cons rfl (fun K hK => ?_) ?_
        · have v0 := U16.c0
          have v1 := U16.c1
          have v2 := U16.c2
          have vf := U16.fz
          dsimp only at v0 v1 v2
          go_simp
          have hP := vb_set U16 (S.at (b : Int))
          have G3 := grown_new G2 hP.2 (fun j e => by cases e; exact hp16)
          refine hK.out _ _ (G3) (fun hHeld => ?_)
          clear hK K
          try simp only [Act.put, List.setIfInBounds_toArray, List.set_cons_zero, List.set_cons_succ]
          have U16 := hP.1
          have U17 := U17.kept hP.2 (by simp; omega)
          clear v0 v1 v2 vf hP
          generalize ((y2.setCell ⟨p16, 0, none⟩ (.int .i64 (S.at (b : Int)).k)).setCell ⟨p16, 1, none⟩ (.int .i64 (S.at (b : Int)).n)).setCell ⟨p16, 2, none⟩ (.string (S.at (b : Int)).s) = y3 at *
          refine wpAnyH_ready (rs := [19]) (by kernel_rfl) (by simp) ?_
          refine AllReadyH.cons rfl (fun K hK => ?_) ?_
          · have v0 := U17.c0
            have v1 := U17.c1
            have v2 := U17.c2
            have vf := U17.fz
            dsimp only at v0 v1 v2
            go_simp
            have hP := vb_set U17 (S.at (c : Int))
            have G4 := grown_new G3 hP.2 (fun j e => by cases e; exact hp17)
            refine hK.out _ _ (G4) (fun hHeld => ?_)
            clear hK K
            try simp only [Act.put, List.setIfInBounds_toArray, List.set_cons_zero, List.set_cons_succ]
            refine wpAnyH_done (by kernel_rfl) ?_ _
            have U16 := U16.kept hP.2 (by simp; omega)
            go_wp2_with fail
            go_meet
            exact ⟨p16, p17, rfl, rfl, U16, hP.1, hp16, hp17, by omega, G4⟩
          exact AllReadyH.nil
        exact AllReadyH.nil
      exact AllReadyH.nil
    refine AllReadyH.cons rfl (fun K hK => ?_) ?_
    · go_simp
      have G1 : W.grownBy (World.drew (World.alloc W (.cells #[.int .i64 0, .int .i64 0, .string ⟨#[]⟩] 31))) none := grown_up (World.grownBy_alloc W (.cells #[.int .i64 0, .int .i64 0, .string ⟨#[]⟩] 31) none) (grown_dr _)
      refine hK.out _ _ (G1) (fun hHeld => ?_)
      clear hK K
      try simp only [Act.put, List.setIfInBounds_toArray, List.set_cons_zero, List.set_cons_succ]
      have U17 : Vb (World.drew (World.alloc W (.cells #[.int .i64 0, .int .i64 0, .string ⟨#[]⟩] 31))) W.heap.size ⟨0, 0, ⟨#[]⟩⟩ := (Vb.new W ⟨0, 0, ⟨#[]⟩⟩).kept (grown_dr _) (by simp)
      generalize (World.drew (World.alloc W (.cells #[.int .i64 0, .int .i64 0, .string ⟨#[]⟩] 31))) = y1 at *
      obtain ⟨p17, hq17⟩ : ∃ p, W.heap.size = p := ⟨_, rfl⟩
      have hp17 : W.heap.size ≤ p17 := Nat.le_of_eq hq17
      rw [hq17] at U17 ⊢
      have hl17 := U17.lt
      refine wpAnyH_ready (rs := [16]) (by kernel_rfl) (by simp) ?_
      refine AllReadyH.cons rfl (fun K hK => ?_) ?_
      · go_simp
        have G2 : W.grownBy (World.alloc y1 (.cells #[.int .i64 0, .int .i64 0, .string ⟨#[]⟩] 31)) none := grown_up G1 (World.grownBy_alloc y1 (.cells #[.int .i64 0, .int .i64 0, .string ⟨#[]⟩] 31) none)
        refine hK.out _ _ (G2) (fun hHeld => ?_)
        clear hK K
        try simp only [Act.put, List.setIfInBounds_toArray, List.set_cons_zero, List.set_cons_succ]
        have U17 := U17.kept (World.grownBy_alloc y1 (.cells #[.int .i64 0, .int .i64 0, .string ⟨#[]⟩] 31) none) (by simp)
        have U16 : Vb (World.alloc y1 (.cells #[.int .i64 0, .int .i64 0, .string ⟨#[]⟩] 31)) y1.heap.size ⟨0, 0, ⟨#[]⟩⟩ := Vb.new y1 ⟨0, 0, ⟨#[]⟩⟩
        generalize (World.alloc y1 (.cells #[.int .i64 0, .int .i64 0, .string ⟨#[]⟩] 31)) = y2 at *
        obtain ⟨p16, hq16⟩ : ∃ p, y1.heap.size = p := ⟨_, rfl⟩
        have hp16 : W.heap.size ≤ p16 := hq16 ▸ G1.size
        rw [hq16] at U16 hl17 ⊢
        refine wpAnyH_ready (rs := [18]) (by kernel_rfl) (by simp) ?_
        refine AllReadyH.cons rfl (fun K hK => ?_) ?_
        · have v0 := U16.c0
          have v1 := U16.c1
          have v2 := U16.c2
          have vf := U16.fz
          dsimp only at v0 v1 v2
          go_simp
          have hP := vb_set U16 (S.at (b : Int))
          have G3 := grown_new G2 hP.2 (fun j e => by cases e; exact hp16)
          refine hK.out _ _ (G3) (fun hHeld => ?_)
          clear hK K
          try simp only [Act.put, List.setIfInBounds_toArray, List.set_cons_zero, List.set_cons_succ]
          have U16 := hP.1
          have U17 := U17.kept hP.2 (by simp; omega)
          clear v0 v1 v2 vf hP
          generalize ((y2.setCell ⟨p16, 0, none⟩ (.int .i64 (S.at (b : Int)).k)).setCell ⟨p16, 1, none⟩ (.int .i64 (S.at (b : Int)).n)).setCell ⟨p16, 2, none⟩ (.string (S.at (b : Int)).s) = y3 at *
          refine wpAnyH_ready (rs := [19]) (by kernel_rfl) (by simp) ?_
          refine AllReadyH.cons rfl (fun K hK => ?_) ?_
          · have v0 := U17.c0
            have v1 := U17.c1
            have v2 := U17.c2
            have vf := U17.fz
            dsimp only at v0 v1 v2
            go_simp
            have hP := vb_set U17 (S.at (c : Int))
            have G4 := grown_new G3 hP.2 (fun j e => by cases e; exact hp17)
            refine hK.out _ _ (G4) (fun hHeld => ?_)
            clear hK K
            try simp only [Act.put, List.setIfInBounds_toArray, List.set_cons_zero, List.set_cons_succ]
            refine wpAnyH_done (by kernel_rfl) ?_ _
            have U16 := U16.kept hP.2 (by simp; omega)
            go_wp2_with fail
            go_meet
            exact ⟨p16, p17, rfl, rfl, U16, hP.1, hp16, hp17, by omega, G4⟩
          exact AllReadyH.nil
        exact AllReadyH.nil
      exact AllReadyH.nil
    exact AllReadyH.nil
  case rest =>
    obtain ⟨p, p', rfl, rfl, hA, hC, hpa, hpc, hpp, hg4⟩ := hcut
    have hM4 := hM1.keptN hg4
    have hb4 := hb.kept hg4 (by simp)
    have HG4 := hide (HG1.out.then (kp_n hg4))
    clear dr t1 b0 b1 b2 b3 b4 b5 b6 br0 br1 br2 cr0 cr1 cr2 rf hM1 hb HG1 hg4
    generalize wc = W2 at *
    have a0 := hA.c0
    have a1 := hA.c1
    have a2 := hA.c2
    have c0 := hC.c0
    have c1 := hC.c1
    have c2 := hC.c2
    have HE : Hid ((if (S.at (b : Int)).k = 1 ∧ (S.at (c : Int)).k = 1 then Rs.go (S.set (a : Int) (nV (wrap64 ((S.at (b : Int)).n - (S.at (c : Int)).n)))) else Rs.bad) = R) := HR.out
    by_cases hk : (S.at (b : Int)).k = 1 ∧ (S.at (c : Int)).k = 1
    · obtain ⟨hk1, hk2⟩ := hk
      have e := HE.out
      rw [if_pos ⟨hk1, hk2⟩] at e
      rw [← w_sub] at e
      obtain ⟨N, HN⟩ : ∃ N, Hid (IntKind.u64.wrap (IntKind.u64.wrap (S.at (b : Int)).n - IntKind.u64.wrap (S.at (c : Int)).n) = N) := ⟨_, rfl⟩
      rw [HN.out] at e
      subst e
      clear HR HE
      rw [hk1] at a0
      rw [hk2] at c0
      obtain ⟨b0, b1, b2, b3, b4, b5, b6⟩ := hb4.cs
      dsimp only at b0 b1 b2 b3 b4 b5 b6
      go_upto_region 9 with fail
      rw [HN.out]
      have t1 := hM4.tb.c1
      obtain ⟨ar0, ar1, ar2, rf⟩ := xg_cells hM4 h6 a la
      have hcv := i_wrap N
      clear HN a0 a1 a2 c0 c1 c2 hA hC b2 b3
      go_region
      go_wp2
      go_end0
      try rw [hcv]
      exact xset_done hM4 HG4.out h6 a la _
    · have e := HE.out
      rw [if_neg hk] at e
      subst e
      by_cases hk1 : (S.at (b : Int)).k = 1
      · have hk2 : ¬ (S.at (c : Int)).k = 1 := fun h => hk ⟨hk1, h⟩
        have z2 : ((S.at (c : Int)).k != 1) = true := by simp [hk2]
        rw [hk1] at a0
        have bf := hM4.tb.fz 13
        have bc := hM4.tb.c13
        have hB := hM4.sBd true
        have HK := hide (HG4.out.then (kp_of hB.2 hM4.gB))
        go_wp2
        go_end0
        exact ⟨rfl, ⟨_, _, _, _, _, _, _, _, hB.1⟩, HK.out⟩
      · have z1 : ((S.at (b : Int)).k != 1) = true := by simp [hk1]
        have bf := hM4.tb.fz 13
        have bc := hM4.tb.c13
        have hB := hM4.sBd true
        have HK := hide (HG4.out.then (kp_of hB.2 hM4.gB))
        go_wp2
        go_end0
        exact ⟨rfl, ⟨_, _, _, _, _, _, _, _, hB.1⟩, HK.out⟩
set_option maxRecDepth 100000 in
set_option maxHeartbeats 4000000 in
theorem xsum_mul (B : Bd) (g : Nat) (tv rv pv ov kv : Value) (S : Ms) (x : V) (a : Nat) (b : Nat) (c : Nat) (la : a < 6) (lb : b < 6) (lc : c < 6) (w : World) (hM : Xm B w g tv S 0 zV false false rv pv ov kv) (h6 : S.rg.length = 6) (hp0 : 0 ≤ S.pc) (hp1 : S.pc ≤ 1000) (hnb : (S.at (b : Int)).wf) (hnc : (S.at (c : Int)).wf) :
    Calls Tryz.prog 42 #[.pointer (some ⟨g, 0, none⟩), (⟨5, (a : Int), (b : Int), (c : Int), x⟩ : In).val] w fun e w' => XP B w g tv (S.sum (⟨5, (a : Int), (b : Int), (c : Int), x⟩ : In) (· * ·)) e w' := by
  obtain ⟨r, cap, rfl, hBr, hr, hrg⟩ := xt_cells hM h6
  have hgb := World.grownBy_alloc w (.cells #[.int .i64 5, .int .i64 (a : Int), .int .i64 (b : Int), .int .i64 (c : Int), .int .i64 x.k, .int .i64 x.n, .string x.s] 44) none
  have hb : Ib (w.alloc (.cells #[.int .i64 5, .int .i64 (a : Int), .int .i64 (b : Int), .int .i64 (c : Int), .int .i64 x.k, .int .i64 x.n, .string x.s] 44)) w.heap.size ⟨5, (a : Int), (b : Int), (c : Int), x⟩ := Ib.new w ⟨5, (a : Int), (b : Int), (c : Int), x⟩
  have hM1 := hM.keptN hgb
  have la' : (a : Int) < 6 := by omega
  have lb' : (b : Int) < 6 := by omega
  have lc' : (c : Int) < 6 := by omega
  obtain ⟨R, HR⟩ : ∃ R, Hid (S.sum (⟨5, (a : Int), (b : Int), (c : Int), x⟩ : In) (· * ·) = R) := ⟨_, rfl⟩
  rw [HR.out]
  unfold In.val
  dsimp only
  go_enter Tryz.func42, Tryz.ntmps42
  go_upto_region 1 with fail
  have HG1 := hide (kp_n (B := B) hgb)
  generalize w.alloc (.cells #[.int .i64 5, .int .i64 (a : Int), .int .i64 (b : Int), .int .i64 (c : Int), .int .i64 x.k, .int .i64 x.n, .string x.s] 44) = W at *
  have hqg : g < w.heap.size := hM.lt
  generalize hq : w.heap.size = q at *
  obtain ⟨b0, b1, b2, b3, b4, b5, b6⟩ := hb.cs
  dsimp only at b0 b1 b2 b3 b4 b5 b6
  have t1 := hM1.tb.c1
  obtain ⟨br0, br1, br2, rf⟩ := xg_cells hM1 h6 b lb
  obtain ⟨cr0, cr1, cr2, rf⟩ := xg_cells hM1 h6 c lc
  have dr := grown_dr W
  go_cut [4, 5] from 7 to 22 (fun t4 t5 W4 => ∃ p16 p17, t4 = .pointer (some ⟨p16, 0, none⟩) ∧ t5 = .pointer (some ⟨p17, 0, none⟩) ∧ Vb W4 p16 (S.at (b : Int)) ∧ Vb W4 p17 (S.at (c : Int)) ∧ W.heap.size ≤ p16 ∧ W.heap.size ≤ p17 ∧ p16 ≠ p17 ∧ W.grownBy W4 none)
  case first =>
    refine wp_region_held_drew (S := fun W0 => W.grownBy W0 none) (by kernel_rfl) (dr) (fun hHeld => ?_)
    refine take_at (i := 0) (d := 7) (v := ?_) rfl rfl (by kernel_rfl) (by kernel_rfl) (by kernel_rfl) (fun _ _ _ h => h) (Or.inl ⟨by rfl, ?_⟩) (by assumption) ?_
    rotate_left
    · intro W hSW
      try dsimp only at hSW
      have g0 := cell_g t1 hSW
      have g1 := cell_g b2 hSW
      have g2 := cell_g b3 hSW
      have g3 := cell_g br0 hSW
      have g4 := cell_g br1 hSW
      have g5 := cell_g br2 hSW
      have g6 := cell_g cr0 hSW
      have g7 := cell_g cr1 hSW
      have g8 := cell_g cr2 hSW
      go_simp
      try with_reducible rfl
    try simp only [Act.put, List.setIfInBounds_toArray, List.set_cons_zero, List.set_cons_succ]
    refine take_at (i := 1) (d := 8) (v := ?_) rfl rfl (by kernel_rfl) (by kernel_rfl) (by kernel_rfl) (fun _ _ _ h => h) (Or.inl ⟨by rfl, ?_⟩) (by assumption) ?_
    rotate_left
    · intro W hSW
      try dsimp only at hSW
      have g0 := cell_g t1 hSW
      have g1 := cell_g b2 hSW
      have g2 := cell_g b3 hSW
      have g3 := cell_g br0 hSW
      have g4 := cell_g br1 hSW
      have g5 := cell_g br2 hSW
      have g6 := cell_g cr0 hSW
      have g7 := cell_g cr1 hSW
      have g8 := cell_g cr2 hSW
      go_simp
      try with_reducible rfl
    try simp only [Act.put, List.setIfInBounds_toArray, List.set_cons_zero, List.set_cons_succ]
    refine take_at (i := 2) (d := 9) (v := ?_) rfl rfl (by kernel_rfl) (by kernel_rfl) (by kernel_rfl) (fun _ _ _ h => h) (Or.inl ⟨by rfl, ?_⟩) (by assumption) ?_
    rotate_left
    · intro W hSW
      try dsimp only at hSW
      have g0 := cell_g t1 hSW
      have g1 := cell_g b2 hSW
      have g2 := cell_g b3 hSW
      have g3 := cell_g br0 hSW
      have g4 := cell_g br1 hSW
      have g5 := cell_g br2 hSW
      have g6 := cell_g cr0 hSW
      have g7 := cell_g cr1 hSW
      have g8 := cell_g cr2 hSW
      go_simp
      try with_reducible rfl
    try simp only [Act.put, List.setIfInBounds_toArray, List.set_cons_zero, List.set_cons_succ]
    refine take_at (i := 3) (d := 10) (v := ?_) rfl rfl (by kernel_rfl) (by kernel_rfl) (by kernel_rfl) (fun _ _ _ h => h) (Or.inl ⟨by rfl, ?_⟩) (by assumption) ?_
    rotate_left
    · intro W hSW
      try dsimp only at hSW
      have g0 := cell_g t1 hSW
      have g1 := cell_g b2 hSW
      have g2 := cell_g b3 hSW
      have g3 := cell_g br0 hSW
      have g4 := cell_g br1 hSW
      have g5 := cell_g br2 hSW
      have g6 := cell_g cr0 hSW
      have g7 := cell_g cr1 hSW
      have g8 := cell_g cr2 hSW
      go_simp
      try with_reducible rfl
    try simp only [Act.put, List.setIfInBounds_toArray, List.set_cons_zero, List.set_cons_succ]
    refine take_at (i := 4) (d := 11) (v := ?_) rfl rfl (by kernel_rfl) (by kernel_rfl) (by kernel_rfl) (fun _ _ _ h => h) (Or.inl ⟨by rfl, ?_⟩) (by assumption) ?_
    rotate_left
    · intro W hSW
      try dsimp only at hSW
      have g0 := cell_g t1 hSW
      have g1 := cell_g b2 hSW
      have g2 := cell_g b3 hSW
      have g3 := cell_g br0 hSW
      have g4 := cell_g br1 hSW
      have g5 := cell_g br2 hSW
      have g6 := cell_g cr0 hSW
      have g7 := cell_g cr1 hSW
      have g8 := cell_g cr2 hSW
      go_simp
      try with_reducible rfl
    try simp only [Act.put, List.setIfInBounds_toArray, List.set_cons_zero, List.set_cons_succ]
    refine take_at (i := 5) (d := 12) (v := ?_) rfl rfl (by kernel_rfl) (by kernel_rfl) (by kernel_rfl) (fun _ _ _ h => h) (Or.inl ⟨by rfl, ?_⟩) (by assumption) ?_
    rotate_left
    · intro W hSW
      try dsimp only at hSW
      have g0 := cell_g t1 hSW
      have g1 := cell_g b2 hSW
      have g2 := cell_g b3 hSW
      have g3 := cell_g br0 hSW
      have g4 := cell_g br1 hSW
      have g5 := cell_g br2 hSW
      have g6 := cell_g cr0 hSW
      have g7 := cell_g cr1 hSW
      have g8 := cell_g cr2 hSW
      go_simp
      try with_reducible rfl
    try simp only [Act.put, List.setIfInBounds_toArray, List.set_cons_zero, List.set_cons_succ]
    refine take_at (i := 6) (d := 13) (v := ?_) rfl rfl (by kernel_rfl) (by kernel_rfl) (by kernel_rfl) (fun _ _ _ h => h) (Or.inl ⟨by rfl, ?_⟩) (by assumption) ?_
    rotate_left
    · intro W hSW
      try dsimp only at hSW
      have g0 := cell_g t1 hSW
      have g1 := cell_g b2 hSW
      have g2 := cell_g b3 hSW
      have g3 := cell_g br0 hSW
      have g4 := cell_g br1 hSW
      have g5 := cell_g br2 hSW
      have g6 := cell_g cr0 hSW
      have g7 := cell_g cr1 hSW
      have g8 := cell_g cr2 hSW
      go_simp
      try with_reducible rfl
    try simp only [Act.put, List.setIfInBounds_toArray, List.set_cons_zero, List.set_cons_succ]
    refine take_at (i := 7) (d := 14) (v := ?_) rfl rfl (by kernel_rfl) (by kernel_rfl) (by kernel_rfl) (fun _ _ _ h => h) (Or.inl ⟨by rfl, ?_⟩) (by assumption) ?_
    rotate_left
    · intro W hSW
      try dsimp only at hSW
      have g0 := cell_g t1 hSW
      have g1 := cell_g b2 hSW
      have g2 := cell_g b3 hSW
      have g3 := cell_g br0 hSW
      have g4 := cell_g br1 hSW
      have g5 := cell_g br2 hSW
      have g6 := cell_g cr0 hSW
      have g7 := cell_g cr1 hSW
      have g8 := cell_g cr2 hSW
      go_simp
      try with_reducible rfl
    try simp only [Act.put, List.setIfInBounds_toArray, List.set_cons_zero, List.set_cons_succ]
    refine take_at (i := 8) (d := 15) (v := ?_) rfl rfl (by kernel_rfl) (by kernel_rfl) (by kernel_rfl) (fun _ _ _ h => h) (Or.inl ⟨by rfl, ?_⟩) (by assumption) ?_
    rotate_left
    · intro W hSW
      try dsimp only at hSW
      have g0 := cell_g t1 hSW
      have g1 := cell_g b2 hSW
      have g2 := cell_g b3 hSW
      have g3 := cell_g br0 hSW
      have g4 := cell_g br1 hSW
      have g5 := cell_g br2 hSW
      have g6 := cell_g cr0 hSW
      have g7 := cell_g cr1 hSW
      have g8 := cell_g cr2 hSW
      go_simp
      try with_reducible rfl
    try simp only [Act.put, List.setIfInBounds_toArray, List.set_cons_zero, List.set_cons_succ]
    refine take_at (i := 9) (d := 16) (v := ?_) rfl rfl (by kernel_rfl) (by kernel_rfl) (by kernel_rfl) (fun _ _ _ h => h) (Or.inl ⟨by rfl, ?_⟩) (by assumption) ?_
    rotate_left
    · intro W hSW
      try dsimp only at hSW
      have g0 := cell_g t1 hSW
      have g1 := cell_g b2 hSW
      have g2 := cell_g b3 hSW
      have g3 := cell_g br0 hSW
      have g4 := cell_g br1 hSW
      have g5 := cell_g br2 hSW
      have g6 := cell_g cr0 hSW
      have g7 := cell_g cr1 hSW
      have g8 := cell_g cr2 hSW
      go_simp
      try with_reducible rfl
    try simp only [Act.put, List.setIfInBounds_toArray, List.set_cons_zero, List.set_cons_succ]
    refine take_at (i := 10) (d := 17) (v := ?_) rfl rfl (by kernel_rfl) (by kernel_rfl) (by kernel_rfl) (fun _ _ _ h => h) (Or.inl ⟨by rfl, ?_⟩) (by assumption) ?_
    rotate_left
    · intro W hSW
      try dsimp only at hSW
      have g0 := cell_g t1 hSW
      have g1 := cell_g b2 hSW
      have g2 := cell_g b3 hSW
      have g3 := cell_g br0 hSW
      have g4 := cell_g br1 hSW
      have g5 := cell_g br2 hSW
      have g6 := cell_g cr0 hSW
      have g7 := cell_g cr1 hSW
      have g8 := cell_g cr2 hSW
      go_simp
      try with_reducible rfl
    try simp only [Act.put, List.setIfInBounds_toArray, List.set_cons_zero, List.set_cons_succ]
    refine take_at (i := 11) (d := 18) (v := ?_) rfl rfl (by kernel_rfl) (by kernel_rfl) (by kernel_rfl) (fun _ _ _ h => h) (Or.inl ⟨by rfl, ?_⟩) (by assumption) ?_
    rotate_left
    · intro W hSW
      try dsimp only at hSW
      have g0 := cell_g t1 hSW
      have g1 := cell_g b2 hSW
      have g2 := cell_g b3 hSW
      have g3 := cell_g br0 hSW
      have g4 := cell_g br1 hSW
      have g5 := cell_g br2 hSW
      have g6 := cell_g cr0 hSW
      have g7 := cell_g cr1 hSW
      have g8 := cell_g cr2 hSW
      go_simp
      try with_reducible rfl
    try simp only [Act.put, List.setIfInBounds_toArray, List.set_cons_zero, List.set_cons_succ]
    refine take_at (i := 12) (d := 19) (v := ?_) rfl rfl (by kernel_rfl) (by kernel_rfl) (by kernel_rfl) (fun _ _ _ h => h) (Or.inl ⟨by rfl, ?_⟩) (by assumption) ?_
    rotate_left
    · intro W hSW
      try dsimp only at hSW
      have g0 := cell_g t1 hSW
      have g1 := cell_g b2 hSW
      have g2 := cell_g b3 hSW
      have g3 := cell_g br0 hSW
      have g4 := cell_g br1 hSW
      have g5 := cell_g br2 hSW
      have g6 := cell_g cr0 hSW
      have g7 := cell_g cr1 hSW
      have g8 := cell_g cr2 hSW
      go_simp
      try with_reducible rfl
    try simp only [Act.put, List.setIfInBounds_toArray, List.set_cons_zero, List.set_cons_succ]
    refine take_at (i := 13) (d := 20) (v := ?_) rfl rfl (by kernel_rfl) (by kernel_rfl) (by kernel_rfl) (fun _ _ _ h => h) (Or.inl ⟨by rfl, ?_⟩) (by assumption) ?_
    rotate_left
    · intro W hSW
      try dsimp only at hSW
      have g0 := cell_g t1 hSW
      have g1 := cell_g b2 hSW
      have g2 := cell_g b3 hSW
      have g3 := cell_g br0 hSW
      have g4 := cell_g br1 hSW
      have g5 := cell_g br2 hSW
      have g6 := cell_g cr0 hSW
      have g7 := cell_g cr1 hSW
      have g8 := cell_g cr2 hSW
      go_simp
      try with_reducible rfl
    try simp only [Act.put, List.setIfInBounds_toArray, List.set_cons_zero, List.set_cons_succ]
    refine take_at (i := 14) (d := 21) (v := ?_) rfl rfl (by kernel_rfl) (by kernel_rfl) (by kernel_rfl) (fun _ _ _ h => h) (Or.inl ⟨by rfl, ?_⟩) (by assumption) ?_
    rotate_left
    · intro W hSW
      try dsimp only at hSW
      have g0 := cell_g t1 hSW
      have g1 := cell_g b2 hSW
      have g2 := cell_g b3 hSW
      have g3 := cell_g br0 hSW
      have g4 := cell_g br1 hSW
      have g5 := cell_g br2 hSW
      have g6 := cell_g cr0 hSW
      have g7 := cell_g cr1 hSW
      have g8 := cell_g cr2 hSW
      go_simp
      try with_reducible rfl
    try simp only [Act.put, List.setIfInBounds_toArray, List.set_cons_zero, List.set_cons_succ]
    refine take_at (i := 15) (d := 22) (v := ?_) rfl rfl (by kernel_rfl) (by kernel_rfl) (by kernel_rfl) (fun _ _ _ h => h) (Or.inl ⟨by rfl, ?_⟩) (by assumption) ?_
    rotate_left
    · intro W hSW
      try dsimp only at hSW
      have g0 := cell_g t1 hSW
      have g1 := cell_g b2 hSW
      have g2 := cell_g b3 hSW
      have g3 := cell_g br0 hSW
      have g4 := cell_g br1 hSW
      have g5 := cell_g br2 hSW
      have g6 := cell_g cr0 hSW
      have g7 := cell_g cr1 hSW
      have g8 := cell_g cr2 hSW
      go_simp
      try with_reducible rfl
    try simp only [Act.put, List.setIfInBounds_toArray, List.set_cons_zero, List.set_cons_succ]
    refine wpAnyH_ready (rs := [16, 17]) (by kernel_rfl) (by simp) ?_
    refine AllReadyH.cons rfl (fun K hK => ?_) ?_
    · go_simp
      have G1 : W.grownBy (World.drew (World.alloc W (.cells #[.int .i64 0, .int .i64 0, .string ⟨#[]⟩] 31))) none := grown_up (World.grownBy_alloc W (.cells #[.int .i64 0, .int .i64 0, .string ⟨#[]⟩] 31) none) (grown_dr _)
      refine hK.out _ _ (G1) (fun hHeld => ?_)
      clear hK K
      try simp only [Act.put, List.setIfInBounds_toArray, List.set_cons_zero, List.set_cons_succ]
      have U16 : Vb (World.drew (World.alloc W (.cells #[.int .i64 0, .int .i64 0, .string ⟨#[]⟩] 31))) W.heap.size ⟨0, 0, ⟨#[]⟩⟩ := (Vb.new W ⟨0, 0, ⟨#[]⟩⟩).kept (grown_dr _) (by simp)
      generalize (World.drew (World.alloc W (.cells #[.int .i64 0, .int .i64 0, .string ⟨#[]⟩] 31))) = y1 at *
      obtain ⟨p16, hq16⟩ : ∃ p, W.heap.size = p := ⟨_, rfl⟩
      have hp16 : W.heap.size ≤ p16 := Nat.le_of_eq hq16
      rw [hq16] at U16 ⊢
      have hl16 := U16.lt
      refine wpAnyH_ready (rs := [17]) (by kernel_rfl) (by simp) ?_
      refine AllReadyH.cons rfl (fun K hK => ?_) ?_
      · go_simp
        have G2 : W.grownBy (World.alloc y1 (.cells #[.int .i64 0, .int .i64 0, .string ⟨#[]⟩] 31)) none := grown_up G1 (World.grownBy_alloc y1 (.cells #[.int .i64 0, .int .i64 0, .string ⟨#[]⟩] 31) none)
        refine hK.out _ _ (G2) (fun hHeld => ?_)
        clear hK K
        try simp only [Act.put, List.setIfInBounds_toArray, List.set_cons_zero, List.set_cons_succ]
        have U16 := U16.kept (World.grownBy_alloc y1 (.cells #[.int .i64 0, .int .i64 0, .string ⟨#[]⟩] 31) none) (by simp)
        have U17 : Vb (World.alloc y1 (.cells #[.int .i64 0, .int .i64 0, .string ⟨#[]⟩] 31)) y1.heap.size ⟨0, 0, ⟨#[]⟩⟩ := Vb.new y1 ⟨0, 0, ⟨#[]⟩⟩
        generalize (World.alloc y1 (.cells #[.int .i64 0, .int .i64 0, .string ⟨#[]⟩] 31)) = y2 at *
        obtain ⟨p17, hq17⟩ : ∃ p, y1.heap.size = p := ⟨_, rfl⟩
        have hp17 : W.heap.size ≤ p17 := hq17 ▸ G1.size
        rw [hq17] at U17 hl16 ⊢
        refine wpAnyH_ready (rs := [18]) (by kernel_rfl) (by simp) ?_
        refine AllReadyH.cons rfl (fun K hK => ?_) ?_
        · have v0 := U16.c0
          have v1 := U16.c1
          have v2 := U16.c2
          have vf := U16.fz
          dsimp only at v0 v1 v2
          go_simp
          have hP := vb_set U16 (S.at (b : Int))
          have G3 := grown_new G2 hP.2 (fun j e => by cases e; exact hp16)
          refine hK.out _ _ (G3) (fun hHeld => ?_)
          clear hK K
          try simp only [Act.put, List.setIfInBounds_toArray, List.set_cons_zero, List.set_cons_succ]
          have U16 := hP.1
          have U17 := U17.kept hP.2 (by simp; omega)
          clear v0 v1 v2 vf hP
          generalize ((y2.setCell ⟨p16, 0, none⟩ (.int .i64 (S.at (b : Int)).k)).setCell ⟨p16, 1, none⟩ (.int .i64 (S.at (b : Int)).n)).setCell ⟨p16, 2, none⟩ (.string (S.at (b : Int)).s) = y3 at *
          refine wpAnyH_ready (rs := [19]) (by kernel_rfl) (by simp) ?_
          refine AllReadyH.cons rfl (fun K hK => ?_) ?_
          · have v0 := U17.c0
            have v1 := U17.c1
            have v2 := U17.c2
            have vf := U17.fz
            dsimp only at v0 v1 v2
            go_simp
            have hP := vb_set U17 (S.at (c : Int))
            have G4 := grown_new G3 hP.2 (fun j e => by cases e; exact hp17)
            refine hK.out _ _ (G4) (fun hHeld => ?_)
            clear hK K
            try simp only [Act.put, List.setIfInBounds_toArray, List.set_cons_zero, List.set_cons_succ]
            refine wpAnyH_done (by kernel_rfl) ?_ _
            have U16 := U16.kept hP.2 (by simp; omega)
            go_wp2_with fail
            go_meet
            exact ⟨p16, p17, rfl, rfl, U16, hP.1, hp16, hp17, by omega, G4⟩
          exact AllReadyH.nil
        exact AllReadyH.nil
      exact AllReadyH.nil
    refine AllReadyH.cons rfl (fun K hK => ?_) ?_
    · go_simp
      have G1 : W.grownBy (World.drew (World.alloc W (.cells #[.int .i64 0, .int .i64 0, .string ⟨#[]⟩] 31))) none := grown_up (World.grownBy_alloc W (.cells #[.int .i64 0, .int .i64 0, .string ⟨#[]⟩] 31) none) (grown_dr _)
      refine hK.out _ _ (G1) (fun hHeld => ?_)
      clear hK K
      try simp only [Act.put, List.setIfInBounds_toArray, List.set_cons_zero, List.set_cons_succ]
      have U17 : Vb (World.drew (World.alloc W (.cells #[.int .i64 0, .int .i64 0, .string ⟨#[]⟩] 31))) W.heap.size ⟨0, 0, ⟨#[]⟩⟩ := (Vb.new W ⟨0, 0, ⟨#[]⟩⟩).kept (grown_dr _) (by simp)
      generalize (World.drew (World.alloc W (.cells #[.int .i64 0, .int .i64 0, .string ⟨#[]⟩] 31))) = y1 at *
      obtain ⟨p17, hq17⟩ : ∃ p, W.heap.size = p := ⟨_, rfl⟩
      have hp17 : W.heap.size ≤ p17 := Nat.le_of_eq hq17
      rw [hq17] at U17 ⊢
      have hl17 := U17.lt
      refine wpAnyH_ready (rs := [16]) (by kernel_rfl) (by simp) ?_
      refine AllReadyH.cons rfl (fun K hK => ?_) ?_
      · go_simp
        have G2 : W.grownBy (World.alloc y1 (.cells #[.int .i64 0, .int .i64 0, .string ⟨#[]⟩] 31)) none := grown_up G1 (World.grownBy_alloc y1 (.cells #[.int .i64 0, .int .i64 0, .string ⟨#[]⟩] 31) none)
        refine hK.out _ _ (G2) (fun hHeld => ?_)
        clear hK K
        try simp only [Act.put, List.setIfInBounds_toArray, List.set_cons_zero, List.set_cons_succ]
        have U17 := U17.kept (World.grownBy_alloc y1 (.cells #[.int .i64 0, .int .i64 0, .string ⟨#[]⟩] 31) none) (by simp)
        have U16 : Vb (World.alloc y1 (.cells #[.int .i64 0, .int .i64 0, .string ⟨#[]⟩] 31)) y1.heap.size ⟨0, 0, ⟨#[]⟩⟩ := Vb.new y1 ⟨0, 0, ⟨#[]⟩⟩
        generalize (World.alloc y1 (.cells #[.int .i64 0, .int .i64 0, .string ⟨#[]⟩] 31)) = y2 at *
        obtain ⟨p16, hq16⟩ : ∃ p, y1.heap.size = p := ⟨_, rfl⟩
        have hp16 : W.heap.size ≤ p16 := hq16 ▸ G1.size
        rw [hq16] at U16 hl17 ⊢
        refine wpAnyH_ready (rs := [18]) (by kernel_rfl) (by simp) ?_
        refine AllReadyH.cons rfl (fun K hK => ?_) ?_
        · have v0 := U16.c0
          have v1 := U16.c1
          have v2 := U16.c2
          have vf := U16.fz
          dsimp only at v0 v1 v2
          go_simp
          have hP := vb_set U16 (S.at (b : Int))
          have G3 := grown_new G2 hP.2 (fun j e => by cases e; exact hp16)
          refine hK.out _ _ (G3) (fun hHeld => ?_)
          clear hK K
          try simp only [Act.put, List.setIfInBounds_toArray, List.set_cons_zero, List.set_cons_succ]
          have U16 := hP.1
          have U17 := U17.kept hP.2 (by simp; omega)
          clear v0 v1 v2 vf hP
          generalize ((y2.setCell ⟨p16, 0, none⟩ (.int .i64 (S.at (b : Int)).k)).setCell ⟨p16, 1, none⟩ (.int .i64 (S.at (b : Int)).n)).setCell ⟨p16, 2, none⟩ (.string (S.at (b : Int)).s) = y3 at *
          refine wpAnyH_ready (rs := [19]) (by kernel_rfl) (by simp) ?_
          refine AllReadyH.cons rfl (fun K hK => ?_) ?_
          · have v0 := U17.c0
            have v1 := U17.c1
            have v2 := U17.c2
            have vf := U17.fz
            dsimp only at v0 v1 v2
            go_simp
            have hP := vb_set U17 (S.at (c : Int))
            have G4 := grown_new G3 hP.2 (fun j e => by cases e; exact hp17)
            refine hK.out _ _ (G4) (fun hHeld => ?_)
            clear hK K
            try simp only [Act.put, List.setIfInBounds_toArray, List.set_cons_zero, List.set_cons_succ]
            refine wpAnyH_done (by kernel_rfl) ?_ _
            have U16 := U16.kept hP.2 (by simp; omega)
            go_wp2_with fail
            go_meet
            exact ⟨p16, p17, rfl, rfl, U16, hP.1, hp16, hp17, by omega, G4⟩
          exact AllReadyH.nil
        exact AllReadyH.nil
      exact AllReadyH.nil
    exact AllReadyH.nil
  case rest =>
    obtain ⟨p, p', rfl, rfl, hA, hC, hpa, hpc, hpp, hg4⟩ := hcut
    have hM4 := hM1.keptN hg4
    have hb4 := hb.kept hg4 (by simp)
    have HG4 := hide (HG1.out.then (kp_n hg4))
    clear dr t1 b0 b1 b2 b3 b4 b5 b6 br0 br1 br2 cr0 cr1 cr2 rf hM1 hb HG1 hg4
    generalize wc = W2 at *
    have a0 := hA.c0
    have a1 := hA.c1
    have a2 := hA.c2
    have c0 := hC.c0
    have c1 := hC.c1
    have c2 := hC.c2
    have HE : Hid ((if (S.at (b : Int)).k = 1 ∧ (S.at (c : Int)).k = 1 then Rs.go (S.set (a : Int) (nV (wrap64 ((S.at (b : Int)).n * (S.at (c : Int)).n)))) else Rs.bad) = R) := HR.out
    by_cases hk : (S.at (b : Int)).k = 1 ∧ (S.at (c : Int)).k = 1
    · obtain ⟨hk1, hk2⟩ := hk
      have e := HE.out
      rw [if_pos ⟨hk1, hk2⟩] at e
      rw [← w_mul] at e
      obtain ⟨N, HN⟩ : ∃ N, Hid (IntKind.u64.wrap (IntKind.u64.wrap (S.at (b : Int)).n * IntKind.u64.wrap (S.at (c : Int)).n) = N) := ⟨_, rfl⟩
      rw [HN.out] at e
      subst e
      clear HR HE
      rw [hk1] at a0
      rw [hk2] at c0
      obtain ⟨b0, b1, b2, b3, b4, b5, b6⟩ := hb4.cs
      dsimp only at b0 b1 b2 b3 b4 b5 b6
      go_upto_region 9 with fail
      rw [HN.out]
      have t1 := hM4.tb.c1
      obtain ⟨ar0, ar1, ar2, rf⟩ := xg_cells hM4 h6 a la
      have hcv := i_wrap N
      clear HN a0 a1 a2 c0 c1 c2 hA hC b2 b3
      go_region
      go_wp2
      go_end0
      try rw [hcv]
      exact xset_done hM4 HG4.out h6 a la _
    · have e := HE.out
      rw [if_neg hk] at e
      subst e
      by_cases hk1 : (S.at (b : Int)).k = 1
      · have hk2 : ¬ (S.at (c : Int)).k = 1 := fun h => hk ⟨hk1, h⟩
        have z2 : ((S.at (c : Int)).k != 1) = true := by simp [hk2]
        rw [hk1] at a0
        have bf := hM4.tb.fz 13
        have bc := hM4.tb.c13
        have hB := hM4.sBd true
        have HK := hide (HG4.out.then (kp_of hB.2 hM4.gB))
        go_wp2
        go_end0
        exact ⟨rfl, ⟨_, _, _, _, _, _, _, _, hB.1⟩, HK.out⟩
      · have z1 : ((S.at (b : Int)).k != 1) = true := by simp [hk1]
        have bf := hM4.tb.fz 13
        have bc := hM4.tb.c13
        have hB := hM4.sBd true
        have HK := hide (HG4.out.then (kp_of hB.2 hM4.gB))
        go_wp2
        go_end0
        exact ⟨rfl, ⟨_, _, _, _, _, _, _, _, hB.1⟩, HK.out⟩

end Go.Proofs.YtpoahegccjgnjaaGreatDoor

namespace Go.Proofs.YtpoahegccjgnjaaGreatDoor
open Go Go.RowKit
set_option linter.unusedVariables false

set_option maxRecDepth 100000 in
set_option maxHeartbeats 4000000 in
theorem xcat_any (B : Bd) (g : Nat) (tv rv pv ov kv : Value) (S : Ms) (x : V) (a : Nat) (b : Nat) (c : Nat) (la : a < 6) (lb : b < 6) (lc : c < 6) (w : World) (hM : Xm B w g tv S 0 zV false false rv pv ov kv) (h6 : S.rg.length = 6) (hp0 : 0 ≤ S.pc) (hp1 : S.pc ≤ 1000) (hbs : (S.at (b : Int)).s.size ≤ 10) (hcs : (S.at (c : Int)).s.size ≤ 10) :
    Calls Tryz.prog 43 #[.pointer (some ⟨g, 0, none⟩), (⟨6, (a : Int), (b : Int), (c : Int), x⟩ : In).val] w fun e w' => XP B w g tv (if ((S.at (b : Int)).k = 2 ∧ (S.at (c : Int)).k = 2) ∧ (S.at (b : Int)).s.size + (S.at (c : Int)).s.size ≤ 10 then Rs.go (S.set (a : Int) ⟨2, 0, (S.at (b : Int)).s ++ (S.at (c : Int)).s⟩) else Rs.bad) e w' := by
  obtain ⟨r, cap, rfl, hBr, hr, hrg⟩ := xt_cells hM h6
  have hgb := World.grownBy_alloc w (.cells #[.int .i64 6, .int .i64 (a : Int), .int .i64 (b : Int), .int .i64 (c : Int), .int .i64 x.k, .int .i64 x.n, .string x.s] 44) none
  have hb : Ib (w.alloc (.cells #[.int .i64 6, .int .i64 (a : Int), .int .i64 (b : Int), .int .i64 (c : Int), .int .i64 x.k, .int .i64 x.n, .string x.s] 44)) w.heap.size ⟨6, (a : Int), (b : Int), (c : Int), x⟩ := Ib.new w ⟨6, (a : Int), (b : Int), (c : Int), x⟩
  have hM1 := hM.keptN hgb
  have la' : (a : Int) < 6 := by omega
  have lb' : (b : Int) < 6 := by omega
  have lc' : (c : Int) < 6 := by omega
  obtain ⟨R, HR⟩ : ∃ R, Hid ((if ((S.at (b : Int)).k = 2 ∧ (S.at (c : Int)).k = 2) ∧ (S.at (b : Int)).s.size + (S.at (c : Int)).s.size ≤ 10 then Rs.go (S.set (a : Int) ⟨2, 0, (S.at (b : Int)).s ++ (S.at (c : Int)).s⟩) else Rs.bad) = R) := ⟨_, rfl⟩
  rw [HR.out]
  unfold In.val
  dsimp only
  go_enter Tryz.func43, Tryz.ntmps43
  go_upto_region 1 with fail
  have HG1 := hide (kp_n (B := B) hgb)
  generalize w.alloc (.cells #[.int .i64 6, .int .i64 (a : Int), .int .i64 (b : Int), .int .i64 (c : Int), .int .i64 x.k, .int .i64 x.n, .string x.s] 44) = W at *
  have hqg : g < w.heap.size := hM.lt
  generalize hq : w.heap.size = q at *
  obtain ⟨b0, b1, b2, b3, b4, b5, b6⟩ := hb.cs
  dsimp only at b0 b1 b2 b3 b4 b5 b6
  have t1 := hM1.tb.c1
  obtain ⟨br0, br1, br2, rf⟩ := xg_cells hM1 h6 b lb
  obtain ⟨cr0, cr1, cr2, rf⟩ := xg_cells hM1 h6 c lc
  have dr := grown_dr W
  go_cut [4, 5] from 6 to 21 (fun t4 t5 W4 => ∃ p16 p17, t4 = .pointer (some ⟨p16, 0, none⟩) ∧ t5 = .pointer (some ⟨p17, 0, none⟩) ∧ Vb W4 p16 (S.at (b : Int)) ∧ Vb W4 p17 (S.at (c : Int)) ∧ W.heap.size ≤ p16 ∧ W.heap.size ≤ p17 ∧ p16 ≠ p17 ∧ W.grownBy W4 none)
  case first =>
    refine wp_region_held_drew (S := fun W0 => W.grownBy W0 none) (by kernel_rfl) (dr) (fun hHeld => ?_)
    refine take_at (i := 0) (d := 6) (v := ?_) rfl rfl (by kernel_rfl) (by kernel_rfl) (by kernel_rfl) (fun _ _ _ h => h) (Or.inl ⟨by rfl, ?_⟩) (by assumption) ?_
    rotate_left
    · intro W hSW
      try dsimp only at hSW
      have g0 := cell_g t1 hSW
      have g1 := cell_g b2 hSW
      have g2 := cell_g b3 hSW
      have g3 := cell_g br0 hSW
      have g4 := cell_g br1 hSW
      have g5 := cell_g br2 hSW
      have g6 := cell_g cr0 hSW
      have g7 := cell_g cr1 hSW
      have g8 := cell_g cr2 hSW
      go_simp
      try with_reducible rfl
    try simp only [Act.put, List.setIfInBounds_toArray, List.set_cons_zero, List.set_cons_succ]
    refine take_at (i := 1) (d := 7) (v := ?_) rfl rfl (by kernel_rfl) (by kernel_rfl) (by kernel_rfl) (fun _ _ _ h => h) (Or.inl ⟨by rfl, ?_⟩) (by assumption) ?_
    rotate_left
    · intro W hSW
      try dsimp only at hSW
      have g0 := cell_g t1 hSW
      have g1 := cell_g b2 hSW
      have g2 := cell_g b3 hSW
      have g3 := cell_g br0 hSW
      have g4 := cell_g br1 hSW
      have g5 := cell_g br2 hSW
      have g6 := cell_g cr0 hSW
      have g7 := cell_g cr1 hSW
      have g8 := cell_g cr2 hSW
      go_simp
      try with_reducible rfl
    try simp only [Act.put, List.setIfInBounds_toArray, List.set_cons_zero, List.set_cons_succ]
    refine take_at (i := 2) (d := 8) (v := ?_) rfl rfl (by kernel_rfl) (by kernel_rfl) (by kernel_rfl) (fun _ _ _ h => h) (Or.inl ⟨by rfl, ?_⟩) (by assumption) ?_
    rotate_left
    · intro W hSW
      try dsimp only at hSW
      have g0 := cell_g t1 hSW
      have g1 := cell_g b2 hSW
      have g2 := cell_g b3 hSW
      have g3 := cell_g br0 hSW
      have g4 := cell_g br1 hSW
      have g5 := cell_g br2 hSW
      have g6 := cell_g cr0 hSW
      have g7 := cell_g cr1 hSW
      have g8 := cell_g cr2 hSW
      go_simp
      try with_reducible rfl
    try simp only [Act.put, List.setIfInBounds_toArray, List.set_cons_zero, List.set_cons_succ]
    refine take_at (i := 3) (d := 9) (v := ?_) rfl rfl (by kernel_rfl) (by kernel_rfl) (by kernel_rfl) (fun _ _ _ h => h) (Or.inl ⟨by rfl, ?_⟩) (by assumption) ?_
    rotate_left
    · intro W hSW
      try dsimp only at hSW
      have g0 := cell_g t1 hSW
      have g1 := cell_g b2 hSW
      have g2 := cell_g b3 hSW
      have g3 := cell_g br0 hSW
      have g4 := cell_g br1 hSW
      have g5 := cell_g br2 hSW
      have g6 := cell_g cr0 hSW
      have g7 := cell_g cr1 hSW
      have g8 := cell_g cr2 hSW
      go_simp
      try with_reducible rfl
    try simp only [Act.put, List.setIfInBounds_toArray, List.set_cons_zero, List.set_cons_succ]
    refine take_at (i := 4) (d := 10) (v := ?_) rfl rfl (by kernel_rfl) (by kernel_rfl) (by kernel_rfl) (fun _ _ _ h => h) (Or.inl ⟨by rfl, ?_⟩) (by assumption) ?_
    rotate_left
    · intro W hSW
      try dsimp only at hSW
      have g0 := cell_g t1 hSW
      have g1 := cell_g b2 hSW
      have g2 := cell_g b3 hSW
      have g3 := cell_g br0 hSW
      have g4 := cell_g br1 hSW
      have g5 := cell_g br2 hSW
      have g6 := cell_g cr0 hSW
      have g7 := cell_g cr1 hSW
      have g8 := cell_g cr2 hSW
      go_simp
      try with_reducible rfl
    try simp only [Act.put, List.setIfInBounds_toArray, List.set_cons_zero, List.set_cons_succ]
    refine take_at (i := 5) (d := 11) (v := ?_) rfl rfl (by kernel_rfl) (by kernel_rfl) (by kernel_rfl) (fun _ _ _ h => h) (Or.inl ⟨by rfl, ?_⟩) (by assumption) ?_
    rotate_left
    · intro W hSW
      try dsimp only at hSW
      have g0 := cell_g t1 hSW
      have g1 := cell_g b2 hSW
      have g2 := cell_g b3 hSW
      have g3 := cell_g br0 hSW
      have g4 := cell_g br1 hSW
      have g5 := cell_g br2 hSW
      have g6 := cell_g cr0 hSW
      have g7 := cell_g cr1 hSW
      have g8 := cell_g cr2 hSW
      go_simp
      try with_reducible rfl
    try simp only [Act.put, List.setIfInBounds_toArray, List.set_cons_zero, List.set_cons_succ]
    refine take_at (i := 6) (d := 12) (v := ?_) rfl rfl (by kernel_rfl) (by kernel_rfl) (by kernel_rfl) (fun _ _ _ h => h) (Or.inl ⟨by rfl, ?_⟩) (by assumption) ?_
    rotate_left
    · intro W hSW
      try dsimp only at hSW
      have g0 := cell_g t1 hSW
      have g1 := cell_g b2 hSW
      have g2 := cell_g b3 hSW
      have g3 := cell_g br0 hSW
      have g4 := cell_g br1 hSW
      have g5 := cell_g br2 hSW
      have g6 := cell_g cr0 hSW
      have g7 := cell_g cr1 hSW
      have g8 := cell_g cr2 hSW
      go_simp
      try with_reducible rfl
    try simp only [Act.put, List.setIfInBounds_toArray, List.set_cons_zero, List.set_cons_succ]
    refine take_at (i := 7) (d := 13) (v := ?_) rfl rfl (by kernel_rfl) (by kernel_rfl) (by kernel_rfl) (fun _ _ _ h => h) (Or.inl ⟨by rfl, ?_⟩) (by assumption) ?_
    rotate_left
    · intro W hSW
      try dsimp only at hSW
      have g0 := cell_g t1 hSW
      have g1 := cell_g b2 hSW
      have g2 := cell_g b3 hSW
      have g3 := cell_g br0 hSW
      have g4 := cell_g br1 hSW
      have g5 := cell_g br2 hSW
      have g6 := cell_g cr0 hSW
      have g7 := cell_g cr1 hSW
      have g8 := cell_g cr2 hSW
      go_simp
      try with_reducible rfl
    try simp only [Act.put, List.setIfInBounds_toArray, List.set_cons_zero, List.set_cons_succ]
    refine take_at (i := 8) (d := 14) (v := ?_) rfl rfl (by kernel_rfl) (by kernel_rfl) (by kernel_rfl) (fun _ _ _ h => h) (Or.inl ⟨by rfl, ?_⟩) (by assumption) ?_
    rotate_left
    · intro W hSW
      try dsimp only at hSW
      have g0 := cell_g t1 hSW
      have g1 := cell_g b2 hSW
      have g2 := cell_g b3 hSW
      have g3 := cell_g br0 hSW
      have g4 := cell_g br1 hSW
      have g5 := cell_g br2 hSW
      have g6 := cell_g cr0 hSW
      have g7 := cell_g cr1 hSW
      have g8 := cell_g cr2 hSW
      go_simp
      try with_reducible rfl
    try simp only [Act.put, List.setIfInBounds_toArray, List.set_cons_zero, List.set_cons_succ]
    refine take_at (i := 9) (d := 15) (v := ?_) rfl rfl (by kernel_rfl) (by kernel_rfl) (by kernel_rfl) (fun _ _ _ h => h) (Or.inl ⟨by rfl, ?_⟩) (by assumption) ?_
    rotate_left
    · intro W hSW
      try dsimp only at hSW
      have g0 := cell_g t1 hSW
      have g1 := cell_g b2 hSW
      have g2 := cell_g b3 hSW
      have g3 := cell_g br0 hSW
      have g4 := cell_g br1 hSW
      have g5 := cell_g br2 hSW
      have g6 := cell_g cr0 hSW
      have g7 := cell_g cr1 hSW
      have g8 := cell_g cr2 hSW
      go_simp
      try with_reducible rfl
    try simp only [Act.put, List.setIfInBounds_toArray, List.set_cons_zero, List.set_cons_succ]
    refine take_at (i := 10) (d := 16) (v := ?_) rfl rfl (by kernel_rfl) (by kernel_rfl) (by kernel_rfl) (fun _ _ _ h => h) (Or.inl ⟨by rfl, ?_⟩) (by assumption) ?_
    rotate_left
    · intro W hSW
      try dsimp only at hSW
      have g0 := cell_g t1 hSW
      have g1 := cell_g b2 hSW
      have g2 := cell_g b3 hSW
      have g3 := cell_g br0 hSW
      have g4 := cell_g br1 hSW
      have g5 := cell_g br2 hSW
      have g6 := cell_g cr0 hSW
      have g7 := cell_g cr1 hSW
      have g8 := cell_g cr2 hSW
      go_simp
      try with_reducible rfl
    try simp only [Act.put, List.setIfInBounds_toArray, List.set_cons_zero, List.set_cons_succ]
    refine take_at (i := 11) (d := 17) (v := ?_) rfl rfl (by kernel_rfl) (by kernel_rfl) (by kernel_rfl) (fun _ _ _ h => h) (Or.inl ⟨by rfl, ?_⟩) (by assumption) ?_
    rotate_left
    · intro W hSW
      try dsimp only at hSW
      have g0 := cell_g t1 hSW
      have g1 := cell_g b2 hSW
      have g2 := cell_g b3 hSW
      have g3 := cell_g br0 hSW
      have g4 := cell_g br1 hSW
      have g5 := cell_g br2 hSW
      have g6 := cell_g cr0 hSW
      have g7 := cell_g cr1 hSW
      have g8 := cell_g cr2 hSW
      go_simp
      try with_reducible rfl
    try simp only [Act.put, List.setIfInBounds_toArray, List.set_cons_zero, List.set_cons_succ]
    refine take_at (i := 12) (d := 18) (v := ?_) rfl rfl (by kernel_rfl) (by kernel_rfl) (by kernel_rfl) (fun _ _ _ h => h) (Or.inl ⟨by rfl, ?_⟩) (by assumption) ?_
    rotate_left
    · intro W hSW
      try dsimp only at hSW
      have g0 := cell_g t1 hSW
      have g1 := cell_g b2 hSW
      have g2 := cell_g b3 hSW
      have g3 := cell_g br0 hSW
      have g4 := cell_g br1 hSW
      have g5 := cell_g br2 hSW
      have g6 := cell_g cr0 hSW
      have g7 := cell_g cr1 hSW
      have g8 := cell_g cr2 hSW
      go_simp
      try with_reducible rfl
    try simp only [Act.put, List.setIfInBounds_toArray, List.set_cons_zero, List.set_cons_succ]
    refine take_at (i := 13) (d := 19) (v := ?_) rfl rfl (by kernel_rfl) (by kernel_rfl) (by kernel_rfl) (fun _ _ _ h => h) (Or.inl ⟨by rfl, ?_⟩) (by assumption) ?_
    rotate_left
    · intro W hSW
      try dsimp only at hSW
      have g0 := cell_g t1 hSW
      have g1 := cell_g b2 hSW
      have g2 := cell_g b3 hSW
      have g3 := cell_g br0 hSW
      have g4 := cell_g br1 hSW
      have g5 := cell_g br2 hSW
      have g6 := cell_g cr0 hSW
      have g7 := cell_g cr1 hSW
      have g8 := cell_g cr2 hSW
      go_simp
      try with_reducible rfl
    try simp only [Act.put, List.setIfInBounds_toArray, List.set_cons_zero, List.set_cons_succ]
    refine take_at (i := 14) (d := 20) (v := ?_) rfl rfl (by kernel_rfl) (by kernel_rfl) (by kernel_rfl) (fun _ _ _ h => h) (Or.inl ⟨by rfl, ?_⟩) (by assumption) ?_
    rotate_left
    · intro W hSW
      try dsimp only at hSW
      have g0 := cell_g t1 hSW
      have g1 := cell_g b2 hSW
      have g2 := cell_g b3 hSW
      have g3 := cell_g br0 hSW
      have g4 := cell_g br1 hSW
      have g5 := cell_g br2 hSW
      have g6 := cell_g cr0 hSW
      have g7 := cell_g cr1 hSW
      have g8 := cell_g cr2 hSW
      go_simp
      try with_reducible rfl
    try simp only [Act.put, List.setIfInBounds_toArray, List.set_cons_zero, List.set_cons_succ]
    refine take_at (i := 15) (d := 21) (v := ?_) rfl rfl (by kernel_rfl) (by kernel_rfl) (by kernel_rfl) (fun _ _ _ h => h) (Or.inl ⟨by rfl, ?_⟩) (by assumption) ?_
    rotate_left
    · intro W hSW
      try dsimp only at hSW
      have g0 := cell_g t1 hSW
      have g1 := cell_g b2 hSW
      have g2 := cell_g b3 hSW
      have g3 := cell_g br0 hSW
      have g4 := cell_g br1 hSW
      have g5 := cell_g br2 hSW
      have g6 := cell_g cr0 hSW
      have g7 := cell_g cr1 hSW
      have g8 := cell_g cr2 hSW
      go_simp
      try with_reducible rfl
    try simp only [Act.put, List.setIfInBounds_toArray, List.set_cons_zero, List.set_cons_succ]
    refine wpAnyH_ready (rs := [16, 17]) (by kernel_rfl) (by simp) ?_
    refine AllReadyH.cons rfl (fun K hK => ?_) ?_
    · go_simp
      have G1 : W.grownBy (World.drew (World.alloc W (.cells #[.int .i64 0, .int .i64 0, .string ⟨#[]⟩] 31))) none := grown_up (World.grownBy_alloc W (.cells #[.int .i64 0, .int .i64 0, .string ⟨#[]⟩] 31) none) (grown_dr _)
      refine hK.out _ _ (G1) (fun hHeld => ?_)
      clear hK K
      try simp only [Act.put, List.setIfInBounds_toArray, List.set_cons_zero, List.set_cons_succ]
      have U16 : Vb (World.drew (World.alloc W (.cells #[.int .i64 0, .int .i64 0, .string ⟨#[]⟩] 31))) W.heap.size ⟨0, 0, ⟨#[]⟩⟩ := (Vb.new W ⟨0, 0, ⟨#[]⟩⟩).kept (grown_dr _) (by simp)
      generalize (World.drew (World.alloc W (.cells #[.int .i64 0, .int .i64 0, .string ⟨#[]⟩] 31))) = y1 at *
      obtain ⟨p16, hq16⟩ : ∃ p, W.heap.size = p := ⟨_, rfl⟩
      have hp16 : W.heap.size ≤ p16 := Nat.le_of_eq hq16
      rw [hq16] at U16 ⊢
      have hl16 := U16.lt
      refine wpAnyH_ready (rs := [17]) (by kernel_rfl) (by simp) ?_
      refine AllReadyH.cons rfl (fun K hK => ?_) ?_
      · go_simp
        have G2 : W.grownBy (World.alloc y1 (.cells #[.int .i64 0, .int .i64 0, .string ⟨#[]⟩] 31)) none := grown_up G1 (World.grownBy_alloc y1 (.cells #[.int .i64 0, .int .i64 0, .string ⟨#[]⟩] 31) none)
        refine hK.out _ _ (G2) (fun hHeld => ?_)
        clear hK K
        try simp only [Act.put, List.setIfInBounds_toArray, List.set_cons_zero, List.set_cons_succ]
        have U16 := U16.kept (World.grownBy_alloc y1 (.cells #[.int .i64 0, .int .i64 0, .string ⟨#[]⟩] 31) none) (by simp)
        have U17 : Vb (World.alloc y1 (.cells #[.int .i64 0, .int .i64 0, .string ⟨#[]⟩] 31)) y1.heap.size ⟨0, 0, ⟨#[]⟩⟩ := Vb.new y1 ⟨0, 0, ⟨#[]⟩⟩
        generalize (World.alloc y1 (.cells #[.int .i64 0, .int .i64 0, .string ⟨#[]⟩] 31)) = y2 at *
        obtain ⟨p17, hq17⟩ : ∃ p, y1.heap.size = p := ⟨_, rfl⟩
        have hp17 : W.heap.size ≤ p17 := hq17 ▸ G1.size
        rw [hq17] at U17 hl16 ⊢
        refine wpAnyH_ready (rs := [18]) (by kernel_rfl) (by simp) ?_
        refine AllReadyH.cons rfl (fun K hK => ?_) ?_
        · have v0 := U16.c0
          have v1 := U16.c1
          have v2 := U16.c2
          have vf := U16.fz
          dsimp only at v0 v1 v2
          go_simp
          have hP := vb_set U16 (S.at (b : Int))
          have G3 := grown_new G2 hP.2 (fun j e => by cases e; exact hp16)
          refine hK.out _ _ (G3) (fun hHeld => ?_)
          clear hK K
          try simp only [Act.put, List.setIfInBounds_toArray, List.set_cons_zero, List.set_cons_succ]
          have U16 := hP.1
          have U17 := U17.kept hP.2 (by simp; omega)
          clear v0 v1 v2 vf hP
          generalize ((y2.setCell ⟨p16, 0, none⟩ (.int .i64 (S.at (b : Int)).k)).setCell ⟨p16, 1, none⟩ (.int .i64 (S.at (b : Int)).n)).setCell ⟨p16, 2, none⟩ (.string (S.at (b : Int)).s) = y3 at *
          refine wpAnyH_ready (rs := [19]) (by kernel_rfl) (by simp) ?_
          refine AllReadyH.cons rfl (fun K hK => ?_) ?_
          · have v0 := U17.c0
            have v1 := U17.c1
            have v2 := U17.c2
            have vf := U17.fz
            dsimp only at v0 v1 v2
            go_simp
            have hP := vb_set U17 (S.at (c : Int))
            have G4 := grown_new G3 hP.2 (fun j e => by cases e; exact hp17)
            refine hK.out _ _ (G4) (fun hHeld => ?_)
            clear hK K
            try simp only [Act.put, List.setIfInBounds_toArray, List.set_cons_zero, List.set_cons_succ]
            refine wpAnyH_done (by kernel_rfl) ?_ _
            have U16 := U16.kept hP.2 (by simp; omega)
            go_wp2_with fail
            go_meet
            exact ⟨p16, p17, rfl, rfl, U16, hP.1, hp16, hp17, by omega, G4⟩
          exact AllReadyH.nil
        exact AllReadyH.nil
      exact AllReadyH.nil
    refine AllReadyH.cons rfl (fun K hK => ?_) ?_
    · go_simp
      have G1 : W.grownBy (World.drew (World.alloc W (.cells #[.int .i64 0, .int .i64 0, .string ⟨#[]⟩] 31))) none := grown_up (World.grownBy_alloc W (.cells #[.int .i64 0, .int .i64 0, .string ⟨#[]⟩] 31) none) (grown_dr _)
      refine hK.out _ _ (G1) (fun hHeld => ?_)
      clear hK K
      try simp only [Act.put, List.setIfInBounds_toArray, List.set_cons_zero, List.set_cons_succ]
      have U17 : Vb (World.drew (World.alloc W (.cells #[.int .i64 0, .int .i64 0, .string ⟨#[]⟩] 31))) W.heap.size ⟨0, 0, ⟨#[]⟩⟩ := (Vb.new W ⟨0, 0, ⟨#[]⟩⟩).kept (grown_dr _) (by simp)
      generalize (World.drew (World.alloc W (.cells #[.int .i64 0, .int .i64 0, .string ⟨#[]⟩] 31))) = y1 at *
      obtain ⟨p17, hq17⟩ : ∃ p, W.heap.size = p := ⟨_, rfl⟩
      have hp17 : W.heap.size ≤ p17 := Nat.le_of_eq hq17
      rw [hq17] at U17 ⊢
      have hl17 := U17.lt
      refine wpAnyH_ready (rs := [16]) (by kernel_rfl) (by simp) ?_
      refine AllReadyH.cons rfl (fun K hK => ?_) ?_
      · go_simp
        have G2 : W.grownBy (World.alloc y1 (.cells #[.int .i64 0, .int .i64 0, .string ⟨#[]⟩] 31)) none := grown_up G1 (World.grownBy_alloc y1 (.cells #[.int .i64 0, .int .i64 0, .string ⟨#[]⟩] 31) none)
        refine hK.out _ _ (G2) (fun hHeld => ?_)
        clear hK K
        try simp only [Act.put, List.setIfInBounds_toArray, List.set_cons_zero, List.set_cons_succ]
        have U17 := U17.kept (World.grownBy_alloc y1 (.cells #[.int .i64 0, .int .i64 0, .string ⟨#[]⟩] 31) none) (by simp)
        have U16 : Vb (World.alloc y1 (.cells #[.int .i64 0, .int .i64 0, .string ⟨#[]⟩] 31)) y1.heap.size ⟨0, 0, ⟨#[]⟩⟩ := Vb.new y1 ⟨0, 0, ⟨#[]⟩⟩
        generalize (World.alloc y1 (.cells #[.int .i64 0, .int .i64 0, .string ⟨#[]⟩] 31)) = y2 at *
        obtain ⟨p16, hq16⟩ : ∃ p, y1.heap.size = p := ⟨_, rfl⟩
        have hp16 : W.heap.size ≤ p16 := hq16 ▸ G1.size
        rw [hq16] at U16 hl17 ⊢
        refine wpAnyH_ready (rs := [18]) (by kernel_rfl) (by simp) ?_
        refine AllReadyH.cons rfl (fun K hK => ?_) ?_
        · have v0 := U16.c0
          have v1 := U16.c1
          have v2 := U16.c2
          have vf := U16.fz
          dsimp only at v0 v1 v2
          go_simp
          have hP := vb_set U16 (S.at (b : Int))
          have G3 := grown_new G2 hP.2 (fun j e => by cases e; exact hp16)
          refine hK.out _ _ (G3) (fun hHeld => ?_)
          clear hK K
          try simp only [Act.put, List.setIfInBounds_toArray, List.set_cons_zero, List.set_cons_succ]
          have U16 := hP.1
          have U17 := U17.kept hP.2 (by simp; omega)
          clear v0 v1 v2 vf hP
          generalize ((y2.setCell ⟨p16, 0, none⟩ (.int .i64 (S.at (b : Int)).k)).setCell ⟨p16, 1, none⟩ (.int .i64 (S.at (b : Int)).n)).setCell ⟨p16, 2, none⟩ (.string (S.at (b : Int)).s) = y3 at *
          refine wpAnyH_ready (rs := [19]) (by kernel_rfl) (by simp) ?_
          refine AllReadyH.cons rfl (fun K hK => ?_) ?_
          · have v0 := U17.c0
            have v1 := U17.c1
            have v2 := U17.c2
            have vf := U17.fz
            dsimp only at v0 v1 v2
            go_simp
            have hP := vb_set U17 (S.at (c : Int))
            have G4 := grown_new G3 hP.2 (fun j e => by cases e; exact hp17)
            refine hK.out _ _ (G4) (fun hHeld => ?_)
            clear hK K
            try simp only [Act.put, List.setIfInBounds_toArray, List.set_cons_zero, List.set_cons_succ]
            refine wpAnyH_done (by kernel_rfl) ?_ _
            have U16 := U16.kept hP.2 (by simp; omega)
            go_wp2_with fail
            go_meet
            exact ⟨p16, p17, rfl, rfl, U16, hP.1, hp16, hp17, by omega, G4⟩
          exact AllReadyH.nil
        exact AllReadyH.nil
      exact AllReadyH.nil
    exact AllReadyH.nil
  case rest =>
    obtain ⟨p, p', rfl, rfl, hA, hC, hpa, hpc, hpp, hg4⟩ := hcut
    have hM4 := hM1.keptN hg4
    have hb4 := hb.kept hg4 (by simp)
    have HG4 := hide (HG1.out.then (kp_n hg4))
    clear dr t1 b0 b1 b2 b3 b4 b5 b6 br0 br1 br2 cr0 cr1 cr2 rf hM1 hb HG1 hg4
    generalize wc = W2 at *
    have a0 := hA.c0
    have a1 := hA.c1
    have a2 := hA.c2
    have c0 := hC.c0
    have c1 := hC.c1
    have c2 := hC.c2
    by_cases hk1 : (S.at (b : Int)).k = 2
    · rw [hk1] at a0
      by_cases hk2 : (S.at (c : Int)).k = 2
      · rw [hk2] at c0
        have hsz : ¬ (9223372036854775807 < (S.at (b : Int)).s.size + (S.at (c : Int)).s.size) := by omega
        by_cases hs : (S.at (b : Int)).s.size + (S.at (c : Int)).s.size ≤ 10
        · have hz : ((S.at (b : Int)).s.size : Int) + ((S.at (c : Int)).s.size : Int) ≤ 10 := by omega
          have e := HR.out
          rw [if_pos ⟨⟨hk1, hk2⟩, hs⟩] at e
          subst e
          clear HR
          go_upto_region 4 with fail
          obtain ⟨b0, b1, b2, b3, b4, b5, b6⟩ := hb4.cs
          dsimp only at b0 b1 b2 b3 b4 b5 b6
          have t1 := hM4.tb.c1
          obtain ⟨ar0, ar1, ar2, rf⟩ := xg_cells hM4 h6 a la
          clear a0 a1 c0 c1 hA hC b2 b3
          go_region
          go_wp2
          go_end0
          exact xset_done hM4 HG4.out h6 a la ⟨2, 0, (S.at (b : Int)).s ++ (S.at (c : Int)).s⟩
        · have hz : ¬ ((S.at (b : Int)).s.size : Int) + ((S.at (c : Int)).s.size : Int) ≤ 10 := by omega
          have e := HR.out
          rw [if_neg (fun h => hs h.2)] at e
          subst e
          have bf := hM4.tb.fz 13
          have bc := hM4.tb.c13
          have hB := hM4.sBd true
          have HK := hide (HG4.out.then (kp_of hB.2 hM4.gB))
          go_wp2
          go_end0
          exact ⟨rfl, ⟨_, _, _, _, _, _, _, _, hB.1⟩, HK.out⟩
      · have z2 : ((S.at (c : Int)).k != 2) = true := by simp [hk2]
        have e := HR.out
        rw [if_neg (fun h => hk2 h.1.2)] at e
        subst e
        have bf := hM4.tb.fz 13
        have bc := hM4.tb.c13
        have hB := hM4.sBd true
        have HK := hide (HG4.out.then (kp_of hB.2 hM4.gB))
        go_wp2
        go_end0
        exact ⟨rfl, ⟨_, _, _, _, _, _, _, _, hB.1⟩, HK.out⟩
    · have z1 : ((S.at (b : Int)).k != 2) = true := by simp [hk1]
      have e := HR.out
      rw [if_neg (fun h => hk1 h.1.1)] at e
      subst e
      have bf := hM4.tb.fz 13
      have bc := hM4.tb.c13
      have hB := hM4.sBd true
      have HK := hide (HG4.out.then (kp_of hB.2 hM4.gB))
      go_wp2
      go_end0
      exact ⟨rfl, ⟨_, _, _, _, _, _, _, _, hB.1⟩, HK.out⟩

end Go.Proofs.YtpoahegccjgnjaaGreatDoor
