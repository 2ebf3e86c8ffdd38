/- Values (api.Value) and tuples as they lie in memory, and what each is as bytes, in plain words; of the program the layout alone. No conditions but those that each theorem states. -/
import Derived.Test.YtamgnpmkmlhadaaJB
namespace Go.Proofs.Ytamgnpmkmlhadaa
open Go Go.RowKit
set_option linter.unusedVariables false

structure V where
  k : Int
  n : Int
  s : ByteArray
def V.cells (x : V) : List Value := [.int .i64 x.k, .int .i64 x.n, .string x.s]
def V.val (x : V) : Value := .agg #[.int .i64 x.k, .int .i64 x.n, .string x.s]
/-- What every value that lies in memory keeps to. -/
structure V.wf (x : V) : Prop where
  n0 : -9223372036854775808 ≤ x.n
  n1 : x.n < 9223372036854775808
  s0 : x.s.size ≤ maxLen
def vcs (l : List V) : List Value := l.flatMap V.cells
theorem vcs_len (l : List V) : (vcs l).length = l.length * 3 := by
  induction l with
  | nil => rfl
  | cons x l ih => simp only [vcs, List.flatMap_cons, List.length_append, List.length_cons] at *; rw [ih]; simp [V.cells]; omega
theorem vcs_append (l m : List V) : vcs (l ++ m) = vcs l ++ vcs m := by simp [vcs]
theorem vcs_one (l : List V) : ∀ u ∈ vcs l, u.oneCell' = true := by
  intro u hu
  obtain ⟨x, _, h⟩ := List.mem_flatMap.1 hu
  simp only [V.cells, List.mem_cons, List.not_mem_nil, or_false] at h
  rcases h with rfl | rfl | rfl <;> rfl
theorem vcs_at (l : List V) : ∀ (i j : Nat) (h : i < l.length), j < 3 → (vcs l)[i * 3 + j]? = (V.cells l[i])[j]? := by
  induction l with
  | nil => intro i j h; simp at h
  | cons x l ih =>
    intro i j h hj
    have e : vcs (x :: l) = V.cells x ++ vcs l := by simp [vcs]
    rw [e]
    rcases i with _ | i
    · rw [List.getElem?_append_left (by simp [V.cells]; omega)]
      simp
    · rw [List.getElem?_append_right (by simp [V.cells]; omega)]
      have h2 := ih i j (by simpa using h) hj
      have e2 : (i + 1) * 3 + j - (V.cells x).length = i * 3 + j := by simp [V.cells]; omega
      rw [e2, h2]
      simp

/-- The slice value v reads as the tuple l. -/
def Tup (w : World) (v : Value) (l : List V) : Prop :=
  ∃ a c, v = .slice a l.length c ∧ l.length ≤ c ∧ c ≤ maxLen ∧ ∀ i (h : i < l.length), ∃ b off, a = some ⟨b, off, none⟩ ∧ b < w.heap.size ∧
    w.cell? ⟨b, off + i * 3, none⟩ = some (.int .i64 l[i].k) ∧ w.cell? ⟨b, off + i * 3 + 1, none⟩ = some (.int .i64 l[i].n) ∧ w.cell? ⟨b, off + i * 3 + 2, none⟩ = some (.string l[i].s)
theorem Tup.nil (w : World) : Tup w (.slice none 0 0) [] := ⟨none, 0, rfl, Nat.le_refl _, Nat.zero_le _, fun i h => absurd h (by simp)⟩
theorem cell_same {w w' : World} {b : Nat} (h : w'.heap[b]? = w.heap[b]?) (off : Nat) : w'.cell? ⟨b, off, none⟩ = w.cell? ⟨b, off, none⟩ := by
  unfold World.cell?
  simp only [h]
theorem Tup.kept {w w' : World} {v : Value} {l : List V} {row : Option Nat} (h : Tup w v l) (hg : w.grownBy w' row) (hne : v.ownBlock = none ∨ v.ownBlock ≠ row) : Tup w' v l := by
  obtain ⟨a, c, rfl, h1, h2, h3⟩ := h
  refine ⟨a, c, rfl, h1, h2, fun i hi => ?_⟩
  obtain ⟨b, off, rfl, hb, c0, c1, c2⟩ := h3 i hi
  have hs := hg.block b hb (by
    rcases hne with hne | hne
    · simp [Value.ownBlock] at hne
    · simpa [Value.ownBlock] using hne)
  refine ⟨b, off, rfl, Nat.lt_of_lt_of_le hb hg.size, ?_, ?_, ?_⟩
  · rw [cell_same hs]; exact c0
  · rw [cell_same hs]; exact c1
  · rw [cell_same hs]; exact c2
theorem Tup.keptN {w w' : World} {v : Value} {l : List V} (h : Tup w v l) (hg : w.grownBy w' none) : Tup w' v l := h.kept hg (by cases v.ownBlock <;> simp)
theorem Tup.take {w : World} {a : Option Addr} {c : Nat} {l : List V} (h : Tup w (.slice a l.length c) l) (m : Nat) (hm : m ≤ l.length) : Tup w (.slice a m c) (l.take m) := by
  obtain ⟨a', c', h0, h1, h2, h3⟩ := h
  cases h0
  have e : (l.take m).length = m := by rw [List.length_take]; omega
  refine ⟨a, c, by rw [e], by rw [e]; omega, h2, fun i hi => ?_⟩
  rw [e] at hi
  obtain ⟨b, off, ha, hb, c0, c1, c2⟩ := h3 i (by omega)
  have e2 : (l.take m)[i]'(by rw [e]; exact hi) = l[i]'(by omega) := List.getElem_take
  exact ⟨b, off, ha, hb, by rw [e2]; exact c0, by rw [e2]; exact c1, by rw [e2]; exact c2⟩

/-- A tuple that a call itself has made. -/
def OwnV (w : World) (base : Nat) (v : Value) (l : List V) : Prop := w.ownsRow base 24 3 v l.length (vcs l)
theorem OwnV.nil (w : World) (base : Nat) : OwnV w base (.slice none 0 0) [] := World.ownsRow_nil w base 24 3
theorem OwnV.lt {w : World} {base : Nat} {v : Value} {l : List V} (h : OwnV w base v l) : ∀ k, v.ownBlock = some k → base ≤ k ∧ k < w.heap.size := World.ownsRow.lt h
theorem OwnV.kept {w w' : World} {base : Nat} {v : Value} {l : List V} {row : Option Nat} (h : OwnV w base v l) (hg : w.grownBy w' row) (hne : v.ownBlock = none ∨ v.ownBlock ≠ row) : OwnV w' base v l :=
  World.ownsRow.kept h hg hne
theorem OwnV.alloc {w : World} {base : Nat} {v : Value} {l : List V} (h : OwnV w base v l) (o : Obj) : OwnV (w.alloc o) base v l := World.ownsRow.alloc h o
theorem OwnV.tup {w : World} {base : Nat} {v : Value} {l : List V} (h : OwnV w base v l) : Tup w v l := by
  have h' := h
  rcases h.2 with ⟨rfl, h0⟩ | ⟨g, cap, cur, rfl, hb, hg, hnc, hcm, hcs, htake⟩
  · have : l = [] := List.eq_nil_of_length_eq_zero h0
    subst this
    exact Tup.nil w
  · refine ⟨some ⟨g, 0, none⟩, cap, rfl, hnc, hcm, fun i hi => ⟨g, 0, rfl, (Array.getElem?_eq_some_iff.1 hg).1, ?_⟩⟩
    have hc := World.ownsRow.cells h' (g := g) rfl
    have plain : ∀ q, (⟨g, 0, none⟩ : Addr).add q = ⟨g, 0 + q, none⟩ := by intro q; unfold Addr.add; split <;> simp_all
    have g0 := hc (i * 3 + 0) _ (by rw [vcs_at l i 0 hi (by omega)]; rfl)
    have g1 := hc (i * 3 + 1) _ (by rw [vcs_at l i 1 hi (by omega)]; rfl)
    have g2 := hc (i * 3 + 2) _ (by rw [vcs_at l i 2 hi (by omega)]; rfl)
    rw [plain] at g0 g1 g2
    exact ⟨g0, g1, g2⟩

/-- One value, in a new block, as what is appended. -/
theorem src_val {P : Program} (w : World) (t e : TypeId) (ht : P.underlying t = some (.slice e)) (x : V) (g : Nat) (hg : w.heap.size = g) :
    Src P 3 t (.slice (some ⟨g, 0, none⟩) 1 1) 1 (vcs [x]) (w.alloc (.cells #[.int .i64 x.k, .int .i64 x.n, .string x.s] e)) := by
  subst hg
  refine Src.ofSlice (e' := e) _ ht ⟨w.heap.size, 0, none⟩ 1 1 (vcs [x]) (by simp [vcs, V.cells]) ?_ (vcs_one [x])
  intro j u hj
  match j, hj with
  | 0, hj => simp [vcs, V.cells] at hj; subst hj; simp [Addr.add]
  | 1, hj => simp [vcs, V.cells] at hj; subst hj; simp [Addr.add]
  | 2, hj => simp [vcs, V.cells] at hj; subst hj; simp [Addr.add]
  | (j + 3), hj => simp [vcs, V.cells] at hj

/-- Two bytes, in a new block, as what is appended. -/
theorem src_two {P : Program} (w : World) (t e : TypeId) (ht : P.underlying t = some (.slice e)) (c d : UInt8) (y z : Int) (hy : y = (c.toNat : Int)) (hz : z = (d.toNat : Int)) :
    Src P 1 t (.slice (some ⟨w.heap.size, 0, none⟩) 2 2) [c, d].length (bcs [c, d]) (w.alloc (.cells #[.int .u8 y, .int .u8 z] e)) := by
  subst hy hz
  refine Src.ofSlice (e' := e) _ ht ⟨w.heap.size, 0, none⟩ 2 2 (bcs [c, d]) (by simp [bcs]) ?_ (bcs_one [c, d])
  intro j u hj
  match j, hj with
  | 0, hj => simp [bcs] at hj; subst hj; simp [Addr.add]
  | 1, hj => simp [bcs] at hj; subst hj; simp [Addr.add]
  | (j + 2), hj => simp [bcs] at hj

/-- A value in a block of its own. -/
def Vb (w : World) (b : Nat) (x : V) : Prop := w.heap[b]? = some (.cells #[.int .i64 x.k, .int .i64 x.n, .string x.s] 24 (0, 0))
theorem Vb.c0 {w : World} {b : Nat} {x : V} (h : Vb w b x) : w.cell? ⟨b, 0, none⟩ = some (.int .i64 x.k) := by rw [cell_of_row w b 0 _ 24 (0, 0) h]; rfl
theorem Vb.c1 {w : World} {b : Nat} {x : V} (h : Vb w b x) : w.cell? ⟨b, 1, none⟩ = some (.int .i64 x.n) := by rw [cell_of_row w b 1 _ 24 (0, 0) h]; rfl
theorem Vb.c2 {w : World} {b : Nat} {x : V} (h : Vb w b x) : w.cell? ⟨b, 2, none⟩ = some (.string x.s) := by rw [cell_of_row w b 2 _ 24 (0, 0) h]; rfl
theorem Vb.fz {w : World} {b : Nat} {x : V} (h : Vb w b x) (j : Nat) : w.frozen? ⟨b, j, none⟩ = false := by
  unfold World.frozen?
  rw [show w.heap[(⟨b, j, none⟩ : Addr).block]? = _ from h]
  simp
theorem Vb.lt {w : World} {b : Nat} {x : V} (h : Vb w b x) : b < w.heap.size := (Array.getElem?_eq_some_iff.1 h).1
theorem Vb.kept {w w' : World} {b : Nat} {x : V} {row : Option Nat} (h : Vb w b x) (hg : w.grownBy w' row) (hne : some b ≠ row) : Vb w' b x := by
  unfold Vb
  rw [hg.block b h.lt hne]
  exact h
theorem Vb.new (w : World) (x : V) : Vb (w.alloc (.cells #[.int .i64 x.k, .int .i64 x.n, .string x.s] 24)) w.heap.size x := heap_alloc_new w _

/-- May a value be? -/
def okV (x : V) : Bool := (x.k == 1 && x.s.toList.isEmpty) || (x.k == 2 && x.n == 0)
theorem okV_iff (x : V) : okV x = true ↔ (x.k = 1 ∧ x.s.data.toList = []) ∨ (x.k = 2 ∧ x.n = 0) := by
  unfold okV
  rw [ByteArray.toList_eq]
  simp
/-- A text's bytes, each 0 followed by 255. -/
def esc : List UInt8 → List UInt8
  | [] => []
  | c :: r => if c = 0 then 0 :: 255 :: esc r else c :: esc r
/-- A number, put up by 2^63. -/
def up (n : Int) : Nat := (n + 9223372036854775808).toNat
def encT (l : List UInt8) : List UInt8 := esc l ++ [0, 1]
def encV (x : V) : List UInt8 := if x.k = 1 then 1 :: be (up x.n) 8 else 2 :: encT x.s.data.toList
def encL (l : List V) : List UInt8 := l.flatMap encV
theorem encL_snoc (l : List V) (x : V) : encL (l ++ [x]) = encL l ++ encV x := by simp [encL]
theorem encL_append (l m : List V) : encL (l ++ m) = encL l ++ encL m := by simp [encL]
theorem encL_take (l : List V) (j : Nat) (h : j < l.length) : encL (l.take (j + 1)) = encL (l.take j) ++ encV l[j] := by
  rw [List.take_succ_eq_append_getElem h, encL_snoc]
theorem esc_append (a b : List UInt8) : esc (a ++ b) = esc a ++ esc b := by
  induction a with
  | nil => rfl
  | cons c r ih =>
    simp only [List.cons_append, esc]
    split <;> simp [ih]
theorem esc_len (a : List UInt8) : (esc a).length ≤ 2 * a.length := by
  induction a with
  | nil => simp [esc]
  | cons c r ih => unfold esc; split <;> simp <;> omega
theorem encL_le (l : List V) (j : Nat) : (encL (l.take j)).length ≤ (encL l).length := by
  have e : encL l = encL (l.take j) ++ encL (l.drop j) := by rw [← encL_append, List.take_append_drop]
  rw [e, List.length_append]; omega
theorem up_u64 (n : Int) (h0 : -9223372036854775808 ≤ n) (h1 : n < 9223372036854775808) : IntKind.u64.wrap (IntKind.u64.wrap n + 9223372036854775808) = (up n : Int) := by
  unfold up
  rw [IntKind.wrap_u64, IntKind.wrap_u64]
  omega
theorem up_lt (n : Int) (h1 : n < 9223372036854775808) : ((up n : Nat) : Int) < 18446744073709551616 := by unfold up; omega

end Go.Proofs.Ytamgnpmkmlhadaa
