/- Instructions (api.Inst) as they lie in memory: a list that came in, a list that a call itself has made, one in a block of its own; and the table of operands. No conditions but those that each theorem states. -/
import Derived.Test.YtpoahegccjgnjaaGreatDoorIMath
import Derived.Test.YtpoahegccjgnjaaGreatDoorKRead
namespace Go.Proofs.YtpoahegccjgnjaaGreatDoor
open Go Go.RowKit
set_option linter.unusedVariables false

def In.cells (x : In) : List Value := [.int .i64 x.op, .int .i64 x.a, .int .i64 x.b, .int .i64 x.c, .int .i64 x.v.k, .int .i64 x.v.n, .string x.v.s]
def In.val (x : In) : Value := .agg #[.int .i64 x.op, .int .i64 x.a, .int .i64 x.b, .int .i64 x.c, .int .i64 x.v.k, .int .i64 x.v.n, .string x.v.s]
def In.obj (x : In) : Obj := .cells #[.int .i64 x.op, .int .i64 x.a, .int .i64 x.b, .int .i64 x.c, .int .i64 x.v.k, .int .i64 x.v.n, .string x.v.s] 44
def ics (l : List In) : List Value := l.flatMap In.cells
theorem ics_len (l : List In) : (ics l).length = l.length * 7 := by
  induction l with
  | nil => rfl
  | cons x l ih => simp only [ics, List.flatMap_cons, List.length_append, List.length_cons] at *; rw [ih]; simp [In.cells]; omega
theorem ics_append (l m : List In) : ics (l ++ m) = ics l ++ ics m := by simp [ics]
theorem ics_one (l : List In) : ∀ u ∈ ics l, u.oneCell' = true := by
  intro u hu
  obtain ⟨x, _, h⟩ := List.mem_flatMap.1 hu
  simp only [In.cells, List.mem_cons, List.not_mem_nil, or_false] at h
  rcases h with rfl | rfl | rfl | rfl | rfl | rfl | rfl <;> rfl
theorem ics_at (l : List In) : ∀ (i j : Nat) (h : i < l.length), j < 7 → (ics l)[i * 7 + j]? = (In.cells l[i])[j]? := by
  induction l with
  | nil => intro i j h; simp at h
  | cons x l ih =>
    intro i j h hj
    have e : ics (x :: l) = In.cells x ++ ics l := by simp [ics]
    rw [e]
    rcases i with _ | i
    · rw [List.getElem?_append_left (by simp [In.cells]; omega)]
      simp
    · rw [List.getElem?_append_right (by simp [In.cells]; omega)]
      have h2 := ih i j (by simpa using h) hj
      have e2 : (i + 1) * 7 + j - (In.cells x).length = i * 7 + j := by simp [In.cells]; omega
      rw [e2, h2]
      simp

/-- The slice value v reads as the instructions l. -/
def Ins (w : World) (v : Value) (l : List In) : Prop :=
  ∃ a c, v = .slice a l.length c ∧ l.length ≤ c ∧ c ≤ maxLen ∧ ∀ i (h : i < l.length), ∃ b off, a = some ⟨b, off, none⟩ ∧ b < w.heap.size ∧
    ∀ j u, (In.cells l[i])[j]? = some u → w.cell? ⟨b, off + i * 7 + j, none⟩ = some u
theorem Ins.nil (w : World) : Ins w (.slice none 0 0) [] := ⟨none, 0, rfl, Nat.le_refl _, Nat.zero_le _, fun i h => absurd h (by simp)⟩
theorem Ins.kept {w w' : World} {v : Value} {l : List In} {row : Option Nat} (h : Ins w v l) (hg : w.grownBy w' row) (hne : v.ownBlock = none ∨ v.ownBlock ≠ row) : Ins w' v l := by
  obtain ⟨a, c, rfl, h1, h2, h3⟩ := h
  refine ⟨a, c, rfl, h1, h2, fun i hi => ?_⟩
  obtain ⟨b, off, rfl, hb, hc⟩ := h3 i hi
  have hs := hg.block b hb (by
    rcases hne with hne | hne
    · simp [Value.ownBlock] at hne
    · simpa [Value.ownBlock] using hne)
  exact ⟨b, off, rfl, Nat.lt_of_lt_of_le hb hg.size, fun j u hu => by rw [cell_same hs]; exact hc j u hu⟩
theorem Ins.keptN {w w' : World} {v : Value} {l : List In} (h : Ins w v l) (hg : w.grownBy w' none) : Ins w' v l := h.kept hg (by cases v.ownBlock <;> simp)
theorem Ins.take {w : World} {a : Option Addr} {c : Nat} {l : List In} (h : Ins w (.slice a l.length c) l) (m : Nat) (hm : m ≤ l.length) : Ins w (.slice a m c) (l.take m) := by
  obtain ⟨a', c', h0, h1, h2, h3⟩ := h
  cases h0
  have e : (l.take m).length = m := by rw [List.length_take]; omega
  refine ⟨a, c, by rw [e], by rw [e]; omega, h2, fun i hi => ?_⟩
  rw [e] at hi
  obtain ⟨b, off, ha, hb, hc⟩ := h3 i (by omega)
  have e2 : (l.take m)[i]'(by rw [e]; exact hi) = l[i]'(by omega) := List.getElem_take
  exact ⟨b, off, ha, hb, fun j u hu => hc j u (by rw [e2] at hu; exact hu)⟩
theorem Ins.lm {w : World} {v : Value} {l : List In} (h : Ins w v l) : l.length ≤ maxLen := by obtain ⟨a, c, _, h1, h2, _⟩ := h; omega
/-- The seven cells of an instruction, as the walk reads them. -/
theorem cells7 {w : World} {b o : Nat} {x : In} (h : ∀ j u, (In.cells x)[j]? = some u → w.cell? ⟨b, o + j, none⟩ = some u) :
    w.cell? ⟨b, o, none⟩ = some (.int .i64 x.op) ∧ w.cell? ⟨b, o + 1, none⟩ = some (.int .i64 x.a) ∧ w.cell? ⟨b, o + 2, none⟩ = some (.int .i64 x.b) ∧ w.cell? ⟨b, o + 3, none⟩ = some (.int .i64 x.c) ∧
    w.cell? ⟨b, o + 4, none⟩ = some (.int .i64 x.v.k) ∧ w.cell? ⟨b, o + 5, none⟩ = some (.int .i64 x.v.n) ∧ w.cell? ⟨b, o + 6, none⟩ = some (.string x.v.s) :=
  ⟨h 0 _ rfl, h 1 _ rfl, h 2 _ rfl, h 3 _ rfl, h 4 _ rfl, h 5 _ rfl, h 6 _ rfl⟩

/-- Instructions that a call itself has made. -/
def OwnI (w : World) (base : Nat) (v : Value) (l : List In) : Prop := w.ownsRow base 44 7 v l.length (ics l)
theorem OwnI.nil (w : World) (base : Nat) : OwnI w base (.slice none 0 0) [] := World.ownsRow_nil w base 44 7
theorem OwnI.lt {w : World} {base : Nat} {v : Value} {l : List In} (h : OwnI w base v l) : ∀ k, v.ownBlock = some k → base ≤ k ∧ k < w.heap.size := World.ownsRow.lt h
theorem OwnI.kept {w w' : World} {base : Nat} {v : Value} {l : List In} {row : Option Nat} (h : OwnI w base v l) (hg : w.grownBy w' row) (hne : v.ownBlock = none ∨ v.ownBlock ≠ row) : OwnI w' base v l :=
  World.ownsRow.kept h hg hne
theorem OwnI.alloc {w : World} {base : Nat} {v : Value} {l : List In} (h : OwnI w base v l) (o : Obj) : OwnI (w.alloc o) base v l := World.ownsRow.alloc h o
theorem OwnI.ins {w : World} {base : Nat} {v : Value} {l : List In} (h : OwnI w base v l) : Ins w v l := by
  have h' := h
  rcases h.2 with ⟨rfl, h0⟩ | ⟨g, cap, cur, rfl, hb, hg, hnc, hcm, hcs, htake⟩
  · have : l = [] := List.eq_nil_of_length_eq_zero h0
    subst this
    exact Ins.nil w
  · refine ⟨some ⟨g, 0, none⟩, cap, rfl, hnc, hcm, fun i hi => ⟨g, 0, rfl, (Array.getElem?_eq_some_iff.1 hg).1, fun j u hu => ?_⟩⟩
    have hc := World.ownsRow.cells h' (g := g) rfl
    have hj : j < 7 := by have := (List.getElem?_eq_some_iff.1 hu).1; simpa [In.cells] using this
    have plain : ∀ q, (⟨g, 0, none⟩ : Addr).add q = ⟨g, 0 + q, none⟩ := by intro q; unfold Addr.add; split <;> simp_all
    have g0 := hc (i * 7 + j) u (by rw [ics_at l i j hi hj]; exact hu)
    rw [plain] at g0
    rw [show 0 + i * 7 + j = 0 + (i * 7 + j) by omega]
    exact g0

/-- One instruction, in a new block, as what is appended. -/
theorem src_in {P : Program} (w : World) (t e : TypeId) (ht : P.underlying t = some (.slice e)) (x : In) (g : Nat) (hg : w.heap.size = g) :
    Src P 7 t (.slice (some ⟨g, 0, none⟩) 1 1) 1 (ics [x]) (w.alloc (.cells #[.int .i64 x.op, .int .i64 x.a, .int .i64 x.b, .int .i64 x.c, .int .i64 x.v.k, .int .i64 x.v.n, .string x.v.s] e)) := by
  subst hg
  refine Src.ofSlice (e' := e) _ ht ⟨w.heap.size, 0, none⟩ 1 1 (ics [x]) (by simp [ics, In.cells]) ?_ (ics_one [x])
  intro j u hj
  match j, hj with
  | 0, hj => simp [ics, In.cells] at hj; subst hj; simp [Addr.add]
  | 1, hj => simp [ics, In.cells] at hj; subst hj; simp [Addr.add]
  | 2, hj => simp [ics, In.cells] at hj; subst hj; simp [Addr.add]
  | 3, hj => simp [ics, In.cells] at hj; subst hj; simp [Addr.add]
  | 4, hj => simp [ics, In.cells] at hj; subst hj; simp [Addr.add]
  | 5, hj => simp [ics, In.cells] at hj; subst hj; simp [Addr.add]
  | 6, hj => simp [ics, In.cells] at hj; subst hj; simp [Addr.add]
  | (j + 7), hj => simp [ics, In.cells] at hj

/-- An instruction in a block of its own. -/
def Ib (w : World) (b : Nat) (x : In) : Prop := w.heap[b]? = some (.cells #[.int .i64 x.op, .int .i64 x.a, .int .i64 x.b, .int .i64 x.c, .int .i64 x.v.k, .int .i64 x.v.n, .string x.v.s] 44 (0, 0))
theorem Ib.lt {w : World} {b : Nat} {x : In} (h : Ib w b x) : b < w.heap.size := (Array.getElem?_eq_some_iff.1 h).1
theorem Ib.cs {w : World} {b : Nat} {x : In} (h : Ib w b x) : w.cell? ⟨b, 0, none⟩ = some (.int .i64 x.op) ∧ w.cell? ⟨b, 1, none⟩ = some (.int .i64 x.a) ∧ w.cell? ⟨b, 2, none⟩ = some (.int .i64 x.b) ∧ w.cell? ⟨b, 3, none⟩ = some (.int .i64 x.c) ∧
    w.cell? ⟨b, 4, none⟩ = some (.int .i64 x.v.k) ∧ w.cell? ⟨b, 5, none⟩ = some (.int .i64 x.v.n) ∧ w.cell? ⟨b, 6, none⟩ = some (.string x.v.s) := by
  refine ⟨?_, ?_, ?_, ?_, ?_, ?_, ?_⟩
  · rw [cell_of_row w b 0 _ 44 (0, 0) h]; rfl
  · rw [cell_of_row w b 1 _ 44 (0, 0) h]; rfl
  · rw [cell_of_row w b 2 _ 44 (0, 0) h]; rfl
  · rw [cell_of_row w b 3 _ 44 (0, 0) h]; rfl
  · rw [cell_of_row w b 4 _ 44 (0, 0) h]; rfl
  · rw [cell_of_row w b 5 _ 44 (0, 0) h]; rfl
  · rw [cell_of_row w b 6 _ 44 (0, 0) h]; rfl
theorem Ib.fz {w : World} {b : Nat} {x : In} (h : Ib w b x) (j : Nat) : w.frozen? ⟨b, j, none⟩ = false := by
  unfold World.frozen?
  rw [show w.heap[(⟨b, j, none⟩ : Addr).block]? = _ from h]
  simp
theorem Ib.kept {w w' : World} {b : Nat} {x : In} {row : Option Nat} (h : Ib w b x) (hg : w.grownBy w' row) (hne : some b ≠ row) : Ib w' b x := by
  unfold Ib
  rw [hg.block b h.lt hne]
  exact h
theorem Ib.new (w : World) (x : In) : Ib (w.alloc (.cells #[.int .i64 x.op, .int .i64 x.a, .int .i64 x.b, .int .i64 x.c, .int .i64 x.v.k, .int .i64 x.v.n, .string x.v.s] 44)) w.heap.size x := heap_alloc_new w _

/-- The table of operands lies at its variable's block. -/
def Glob (w : World) : Prop := 0 < w.heap.size ∧ ∀ i, i < 20 → w.cell? ⟨0, i, none⟩ = some (.int .i64 (tabO.getD i 0))
theorem Glob.kept {w w' : World} {row : Option Nat} (h : Glob w) (hg : w.grownBy w' row) (hne : row ≠ some 0) : Glob w' :=
  ⟨Nat.lt_of_lt_of_le h.1 hg.size, fun i hi => by rw [cell_same (hg.block 0 h.1 (Ne.symm hne))]; exact h.2 i hi⟩
theorem Glob.keptN {w w' : World} (h : Glob w) (hg : w.grownBy w' none) : Glob w' := h.kept hg (by simp)
theorem Glob.alloc {w : World} (h : Glob w) (o : Obj) : Glob (w.alloc o) := h.keptN (World.grownBy_alloc w o none)
def nOpI (op : Int) : Int := if opOk op then (nOps op : Int) else 0
theorem Glob.at {w : World} (h : Glob w) (op : Int) (ho : opOk op = true) : w.cell? ⟨0, op.toNat, none⟩ = some (.int .i64 (nOps op : Int)) := by
  have h1 := of_decide_eq_true ho
  have e : tabO.getD op.toNat 0 = (nOps op : Int) := by
    unfold nOps
    have : ∀ i : Nat, i < 20 → tabO.getD i 0 = ((tabO.getD i 0).toNat : Int) := by decide
    exact this _ (by omega)
  rw [h.2 _ (by omega), e]

end Go.Proofs.YtpoahegccjgnjaaGreatDoor
