/- The state of a step as it lies in memory: the step's own block, and the rows that it has made; what a turn of one of them leaves. Conditions: those that each theorem states. -/
import Derived.Test.YtpoahegccjgnjaaGreatDoorHJm
import Derived.Test.YtpoahegccjgnjaaGreatDoorIApp
namespace Go.Proofs.YtpoahegccjgnjaaGreatDoor
open Go Go.RowKit
set_option linter.unusedVariables false

/-- Rows of elements of several cells. -/
structure Cl {α : Type} (c : α → List Value) (n : Nat) : Prop where
  len : ∀ x, (c x).length = n
  one : ∀ x, ∀ u ∈ c x, u.oneCell' = true
def fcs {α : Type} (c : α → List Value) (l : List α) : List Value := l.flatMap c
theorem fcs_append {α : Type} (c : α → List Value) (l m : List α) : fcs c (l ++ m) = fcs c l ++ fcs c m := by simp [fcs]
theorem fcs_len {α : Type} {c : α → List Value} {n : Nat} (h : Cl c n) (l : List α) : (fcs c l).length = l.length * n := by
  induction l with
  | nil => simp [fcs]
  | cons x l ih =>
    show (c x ++ fcs c l).length = (l.length + 1) * n
    rw [List.length_append, ih, h.len x, Nat.add_mul]
    omega
theorem fcs_one {α : Type} {c : α → List Value} {n : Nat} (h : Cl c n) (l : List α) : ∀ u ∈ fcs c l, u.oneCell' = true := by
  intro u hu
  obtain ⟨x, _, hx⟩ := List.mem_flatMap.1 hu
  exact h.one x u hx
theorem fcs_at {α : Type} {c : α → List Value} {n : Nat} (h : Cl c n) (l : List α) : ∀ (i j : Nat) (hi : i < l.length), j < n → (fcs c l)[i * n + j]? = (c l[i])[j]? := by
  induction l with
  | nil => intro i j hi; simp at hi
  | cons x l ih =>
    intro i j hi hj
    show (c x ++ fcs c l)[i * n + j]? = _
    rcases i with _ | i
    · rw [List.getElem?_append_left (by rw [h.len x]; omega), Nat.zero_mul, Nat.zero_add]
      rfl
    · rw [List.getElem?_append_right (by rw [h.len x, Nat.add_mul]; omega), h.len x]
      have h2 := ih i j (by simpa using hi) hj
      rw [show (i + 1) * n + j - n = i * n + j by rw [Nat.add_mul]; omega, h2]
      rfl
/-- A list with others in their places. -/
def putL (xs : List Value) : Nat → List Value → List Value
  | _, [] => xs
  | o, v :: r => putL (xs.set o v) (o + 1) r
theorem putL_len : ∀ (vs xs : List Value) (o : Nat), (putL xs o vs).length = xs.length
  | [], _, _ => rfl
  | v :: r, xs, o => by unfold putL; rw [putL_len r, List.length_set]
theorem putL_at : ∀ (vs xs : List Value) (o j : Nat), o + vs.length ≤ xs.length → (putL xs o vs)[j]? = if o ≤ j ∧ j < o + vs.length then vs[j - o]? else xs[j]?
  | [], xs, o, j, _ => by rw [if_neg (by simp)]; rfl
  | v :: r, xs, o, j, h => by
    have h' : o + (r.length + 1) ≤ xs.length := h
    unfold putL
    rw [putL_at r _ (o + 1) j (by rw [List.length_set]; omega)]
    by_cases h1 : j = o
    · subst h1
      rw [if_neg (by omega), if_pos (by simp), List.getElem?_set_self (by omega), Nat.sub_self]
      rfl
    · by_cases h2 : o + 1 ≤ j ∧ j < o + 1 + r.length
      · rw [if_pos h2, if_pos (by simp; omega), show j - o = (j - (o + 1)) + 1 by omega]
        rfl
      · rw [if_neg h2, if_neg (by simp; omega), List.getElem?_set_ne (by omega)]
theorem putL_fcs {α : Type} {c : α → List Value} {n : Nat} (h : Cl c n) (l : List α) (i : Nat) (hi : i < l.length) (x : α) : putL (fcs c l) (i * n) (c x) = fcs c (l.set i x) := by
  have hb : i * n + n ≤ l.length * n := by rw [← Nat.succ_mul]; exact Nat.mul_le_mul_right n hi
  apply List.ext_getElem?
  intro j
  rw [putL_at _ _ _ _ (by rw [h.len, fcs_len h]; exact hb), h.len]
  rcases Nat.eq_zero_or_pos n with rfl | hn
  · rw [if_neg (by omega)]
    have e1 : ∀ l : List α, fcs c l = [] := fun l => List.eq_nil_of_length_eq_zero (by rw [fcs_len h, Nat.mul_zero])
    rw [e1, e1]
  by_cases hj : j < l.length * n
  · have hq : j / n < l.length := (Nat.div_lt_iff_lt_mul hn).2 hj
    have hm : j % n < n := Nat.mod_lt _ hn
    have ej : j = j / n * n + j % n := by rw [Nat.mul_comm]; exact (Nat.div_add_mod j n).symm
    have e2 := fcs_at h (l.set i x) (j / n) (j % n) (by rw [List.length_set]; exact hq) hm
    rw [← ej] at e2
    rw [e2]
    by_cases hc : i * n ≤ j ∧ j < i * n + n
    · rw [if_pos hc]
      have hd : j / n = i := by
        apply Nat.div_eq_of_lt_le
        · exact hc.1
        · rw [Nat.succ_mul]; exact hc.2
      have hs : j - i * n = j % n := by
        have : j = i * n + j % n := by rw [← hd]; exact ej
        omega
      rw [hs]
      simp [hd]
    · rw [if_neg hc]
      have hd : j / n ≠ i := by
        intro e
        apply hc
        rw [← e]
        exact ⟨by omega, by omega⟩
      have e3 := fcs_at h l (j / n) (j % n) hq hm
      rw [← ej] at e3
      rw [e3, List.getElem_set_ne (by omega)]
  · have hj' : l.length * n ≤ j := Nat.le_of_not_lt hj
    rw [if_neg (by intro hh; have := hh.2; omega), List.getElem?_eq_none (by rw [fcs_len h]; exact hj'), List.getElem?_eq_none (by rw [fcs_len h, List.length_set]; exact hj')]

/-- A slice that reads as elements of several cells; and one that a call itself has made. -/
def Rw {α : Type} (c : α → List Value) (n : Nat) (w : World) (v : Value) (l : List α) : Prop :=
  ∃ a cap, v = .slice a l.length cap ∧ l.length ≤ cap ∧ cap ≤ maxLen ∧ ∀ i (h : i < l.length), ∃ b off, a = some ⟨b, off, none⟩ ∧ b < w.heap.size ∧ ∀ j u, (c l[i])[j]? = some u → w.cell? ⟨b, off + i * n + j, none⟩ = some u
theorem Rw.nil {α : Type} (c : α → List Value) (n : Nat) (w : World) : Rw c n w (.slice none 0 0) [] := ⟨none, 0, rfl, Nat.le_refl _, Nat.zero_le _, fun i h => absurd h (by simp)⟩
/-- What a step may turn: blocks from B.1 on, but the one that its deeds are listed in. -/
abbrev Bd := Nat × Nat
def Bk (B : Bd) (k : Nat) : Prop := B.1 ≤ k ∧ k ≠ B.2
theorem Rw.kp {α : Type} {c : α → List Value} {n : Nat} {B : Bd} {w w' : World} {v : Value} {l : List α} (h : Rw c n w v l) (hk : Kp (Bk B) w w') (hB : ∀ b off m cap, v = .slice (some ⟨b, off, none⟩) m cap → b < B.1) : Rw c n w' v l := by
  obtain ⟨a, cap, rfl, h1, h2, h3⟩ := h
  refine ⟨a, cap, rfl, h1, h2, fun i hi => ?_⟩
  obtain ⟨b, off, rfl, hb, hc⟩ := h3 i hi
  exact ⟨b, off, rfl, Nat.lt_of_lt_of_le hb hk.size, fun j u hu => hk.cell (hc j u hu) (fun hh => by have := hB b off _ cap rfl; have := hh.1; omega)⟩
theorem Rw.keptN {α : Type} {c : α → List Value} {n : Nat} {w w' : World} {v : Value} {l : List α} (h : Rw c n w v l) (hg : w.grownBy w' none) : Rw c n w' v l := by
  obtain ⟨a, cap, rfl, h1, h2, h3⟩ := h
  refine ⟨a, cap, rfl, h1, h2, fun i hi => ?_⟩
  obtain ⟨b, off, rfl, hb, hc⟩ := h3 i hi
  exact ⟨b, off, rfl, Nat.lt_of_lt_of_le hb hg.size, fun j u hu => by rw [cell_same (hg.block b hb (by simp))]; exact hc j u hu⟩
def OwR {α : Type} (c : α → List Value) (n : Nat) (e : TypeId) (w : World) (B : Nat) (v : Value) (l : List α) : Prop := w.ownsRow B e n v l.length (fcs c l)
section
variable {α : Type} {c : α → List Value} {n : Nat} {e : TypeId} {w w' : World} {B : Nat} {v : Value} {l : List α}
theorem OwR.nil : OwR c n e w B (.slice none 0 0) ([] : List α) := World.ownsRow_nil w B e n
theorem OwR.lt (h : OwR c n e w B v l) : ∀ k, v.ownBlock = some k → B ≤ k ∧ k < w.heap.size := World.ownsRow.lt h
theorem OwR.kept {row : Option Nat} (h : OwR c n e w B v l) (hg : w.grownBy w' row) (hne : v.ownBlock = none ∨ v.ownBlock ≠ row) : OwR c n e w' B v l := World.ownsRow.kept h hg hne
theorem OwR.keptN (h : OwR c n e w B v l) (hg : w.grownBy w' none) : OwR c n e w' B v l := h.kept hg (by cases v.ownBlock <;> simp)
theorem OwR.shape (h : OwR c n e w B v l) : (v = .slice none 0 0 ∧ l = []) ∨ ∃ r cap, v = .slice (some ⟨r, 0, none⟩) l.length cap ∧ B ≤ r ∧ r < w.heap.size := by
  rcases h.2 with ⟨rfl, h0⟩ | ⟨g, cap, cur, rfl, hb, hg, _⟩
  · exact .inl ⟨rfl, List.eq_nil_of_length_eq_zero h0⟩
  · exact .inr ⟨g, cap, rfl, hb, (Array.getElem?_eq_some_iff.1 hg).1⟩
theorem OwR.cells (h : OwR c n e w B v l) (hc : Cl c n) {r : Nat} (hr : v.ownBlock = some r) (i : Nat) (hi : i < l.length) (j : Nat) (u : Value) (hu : (c l[i])[j]? = some u) : w.cell? ⟨r, i * n + j, none⟩ = some u := by
  have hj : j < n := by have := (List.getElem?_eq_some_iff.1 hu).1; rw [hc.len] at this; exact this
  have g0 := World.ownsRow.cells h (g := r) hr (i * n + j) u (by rw [fcs_at hc l i j hi hj]; exact hu)
  rw [addr_plainI, Nat.zero_add] at g0
  exact g0
theorem OwR.rw (h : OwR c n e w B v l) (hc : Cl c n) : Rw c n w v l := by
  have h' := h
  rcases h.2 with ⟨rfl, h0⟩ | ⟨g, cap, cur, rfl, hb, hg, hnc, hcm, hcs, htake⟩
  · have : l = [] := List.eq_nil_of_length_eq_zero h0
    subst this
    exact Rw.nil c n w
  · refine ⟨some ⟨g, 0, none⟩, cap, rfl, hnc, hcm, fun i hi => ⟨g, 0, rfl, (Array.getElem?_eq_some_iff.1 hg).1, fun j u hu => ?_⟩⟩
    rw [Nat.zero_add]
    exact OwR.cells h' hc rfl i hi j u hu
theorem own_stored : ∀ (vs : List Value) (o : Nat) (w : World) (xs : List Value) (m cap r : Nat), w.ownsRow B e n (.slice (some ⟨r, 0, none⟩) m cap) m xs →
    (w.setCells r o vs).ownsRow B e n (.slice (some ⟨r, 0, none⟩) m cap) m (putL xs o vs) ∧ w.grownBy (w.setCells r o vs) (some r)
  | [], o, w, xs, m, cap, r, h => ⟨h, World.grownBy.refl w _⟩
  | v :: t, o, w, xs, m, cap, r, h => by
    have h1 := World.ownsRow.stored h o v
    have h2 := own_stored t (o + 1) _ _ m cap r h1.1
    exact ⟨h2.1, grown_trans h1.2 h2.2 (.inl rfl)⟩
/-- An element is put in another one's place. -/
theorem OwR.put (hc : Cl c n) {r cap : Nat} (h : OwR c n e w B (.slice (some ⟨r, 0, none⟩) l.length cap) l) (i : Nat) (hi : i < l.length) (x : α) :
    OwR c n e (w.setCells r (i * n) (c x)) B (.slice (some ⟨r, 0, none⟩) l.length cap) (l.set i x) ∧ w.grownBy (w.setCells r (i * n) (c x)) (some r) := by
  have := own_stored (c x) (i * n) w (fcs c l) l.length cap r h
  refine ⟨?_, this.2⟩
  unfold OwR
  rw [List.length_set, ← putL_fcs hc l i hi x]
  exact this.1
theorem OwR.fz {r cap m : Nat} (h : OwR c n e w B (.slice (some ⟨r, 0, none⟩) m cap) l) (hm : m = l.length) (j : Nat) : w.frozen? ⟨r, j, none⟩ = false := by subst hm; exact World.ownsRow.frozenAt h j
end

def Wr.cells (x : Wr) : List Value := [.int .i64 x.k.k, .int .i64 x.k.n, .string x.k.s, .int .i64 x.v.k, .int .i64 x.v.n, .string x.v.s, .bool x.g]
def Wr.val (x : Wr) : Value := .agg #[.int .i64 x.k.k, .int .i64 x.k.n, .string x.k.s, .int .i64 x.v.k, .int .i64 x.v.n, .string x.v.s, .bool x.g]
def Sp.cells (x : Sp) : List Value := [.int .i64 x.p, .int .i64 x.a.k, .int .i64 x.a.n, .string x.a.s, .int .i64 x.k.k, .int .i64 x.k.n, .string x.k.s]
def Sp.val (x : Sp) : Value := .agg #[.int .i64 x.p, .int .i64 x.a.k, .int .i64 x.a.n, .string x.a.s, .int .i64 x.k.k, .int .i64 x.k.n, .string x.k.s]
theorem clV : Cl V.cells 3 := ⟨fun _ => rfl, fun x u hu => by simp only [V.cells, List.mem_cons, List.not_mem_nil, or_false] at hu; rcases hu with rfl | rfl | rfl <;> rfl⟩
theorem clW : Cl Wr.cells 7 := ⟨fun _ => rfl, fun x u hu => by simp only [Wr.cells, List.mem_cons, List.not_mem_nil, or_false] at hu; rcases hu with rfl | rfl | rfl | rfl | rfl | rfl | rfl <;> rfl⟩
theorem clS : Cl Sp.cells 7 := ⟨fun _ => rfl, fun x u hu => by simp only [Sp.cells, List.mem_cons, List.not_mem_nil, or_false] at hu; rcases hu with rfl | rfl | rfl | rfl | rfl | rfl | rfl <;> rfl⟩
theorem rw_tup {w : World} {v : Value} {l : List V} (h : Rw V.cells 3 w v l) : Tup w v l := by
  obtain ⟨a, cap, e, h1, h2, h3⟩ := h
  refine ⟨a, cap, e, h1, h2, fun i hi => ?_⟩
  obtain ⟨b, off, ha, hb, hc⟩ := h3 i hi
  exact ⟨b, off, ha, hb, hc 0 _ rfl, hc 1 _ rfl, hc 2 _ rfl⟩

/-- The step's own block. -/
def Tb (w : World) (g : Nat) (tv : Value) (pc : Int) (rv pv ov kv : Value) (sl en : Int) (v : V) (fp : Int) (fr : Value) (ed : Bool) : Prop :=
  w.heap[g]? = some (.cells #[tv, .int .i64 pc, rv, pv, ov, kv, .int .i64 sl, .int .i64 en, .int .i64 v.k, .int .i64 v.n, .string v.s, .int .i64 fp, fr, .bool ed] 50 (0, 0))
section
variable {w : World} {g : Nat} {tv rv pv ov kv fr : Value} {pc sl en fp : Int} {v : V} {ed : Bool}
theorem Tb.lt (h : Tb w g tv pc rv pv ov kv sl en v fp fr ed) : g < w.heap.size := (Array.getElem?_eq_some_iff.1 h).1
theorem Tb.kept {w' : World} {row : Option Nat} (h : Tb w g tv pc rv pv ov kv sl en v fp fr ed) (hg : w.grownBy w' row) (hne : some g ≠ row) : Tb w' g tv pc rv pv ov kv sl en v fp fr ed := by
  unfold Tb
  rw [hg.block g h.lt hne]
  exact h
theorem Tb.fz (h : Tb w g tv pc rv pv ov kv sl en v fp fr ed) (j : Nat) : w.frozen? ⟨g, j, none⟩ = false := by
  unfold World.frozen?
  rw [show w.heap[(⟨g, j, none⟩ : Addr).block]? = _ from h]
  simp
theorem Tb.c0 (h : Tb w g tv pc rv pv ov kv sl en v fp fr ed) : w.cell? ⟨g, 0, none⟩ = some tv := by rw [cell_of_row w g 0 _ 50 (0, 0) h]; rfl
theorem Tb.c1 (h : Tb w g tv pc rv pv ov kv sl en v fp fr ed) : w.cell? ⟨g, 1, none⟩ = some (.int .i64 pc) := by rw [cell_of_row w g 1 _ 50 (0, 0) h]; rfl
theorem Tb.c2 (h : Tb w g tv pc rv pv ov kv sl en v fp fr ed) : w.cell? ⟨g, 2, none⟩ = some rv := by rw [cell_of_row w g 2 _ 50 (0, 0) h]; rfl
theorem Tb.c3 (h : Tb w g tv pc rv pv ov kv sl en v fp fr ed) : w.cell? ⟨g, 3, none⟩ = some pv := by rw [cell_of_row w g 3 _ 50 (0, 0) h]; rfl
theorem Tb.c4 (h : Tb w g tv pc rv pv ov kv sl en v fp fr ed) : w.cell? ⟨g, 4, none⟩ = some ov := by rw [cell_of_row w g 4 _ 50 (0, 0) h]; rfl
theorem Tb.c5 (h : Tb w g tv pc rv pv ov kv sl en v fp fr ed) : w.cell? ⟨g, 5, none⟩ = some kv := by rw [cell_of_row w g 5 _ 50 (0, 0) h]; rfl
theorem Tb.c6 (h : Tb w g tv pc rv pv ov kv sl en v fp fr ed) : w.cell? ⟨g, 6, none⟩ = some (.int .i64 sl) := by rw [cell_of_row w g 6 _ 50 (0, 0) h]; rfl
theorem Tb.c7 (h : Tb w g tv pc rv pv ov kv sl en v fp fr ed) : w.cell? ⟨g, 7, none⟩ = some (.int .i64 en) := by rw [cell_of_row w g 7 _ 50 (0, 0) h]; rfl
theorem Tb.c8 (h : Tb w g tv pc rv pv ov kv sl en v fp fr ed) : w.cell? ⟨g, 8, none⟩ = some (.int .i64 v.k) := by rw [cell_of_row w g 8 _ 50 (0, 0) h]; rfl
theorem Tb.c9 (h : Tb w g tv pc rv pv ov kv sl en v fp fr ed) : w.cell? ⟨g, 9, none⟩ = some (.int .i64 v.n) := by rw [cell_of_row w g 9 _ 50 (0, 0) h]; rfl
theorem Tb.c10 (h : Tb w g tv pc rv pv ov kv sl en v fp fr ed) : w.cell? ⟨g, 10, none⟩ = some (.string v.s) := by rw [cell_of_row w g 10 _ 50 (0, 0) h]; rfl
theorem Tb.c11 (h : Tb w g tv pc rv pv ov kv sl en v fp fr ed) : w.cell? ⟨g, 11, none⟩ = some (.int .i64 fp) := by rw [cell_of_row w g 11 _ 50 (0, 0) h]; rfl
theorem Tb.c12 (h : Tb w g tv pc rv pv ov kv sl en v fp fr ed) : w.cell? ⟨g, 12, none⟩ = some fr := by rw [cell_of_row w g 12 _ 50 (0, 0) h]; rfl
theorem Tb.c13 (h : Tb w g tv pc rv pv ov kv sl en v fp fr ed) : w.cell? ⟨g, 13, none⟩ = some (.bool ed) := by rw [cell_of_row w g 13 _ 50 (0, 0) h]; rfl
theorem tb_set (h : Tb w g tv pc rv pv ov kv sl en v fp fr ed) (o : Nat) (x : Value) : (w.setCell ⟨g, o, none⟩ x).heap[g]? = some (.cells ((#[tv, .int .i64 pc, rv, pv, ov, kv, .int .i64 sl, .int .i64 en, .int .i64 v.k, .int .i64 v.n, .string v.s, .int .i64 fp, fr, .bool ed] : Array Value).setIfInBounds o x) 50 (0, 0)) ∧ w.grownBy (w.setCell ⟨g, o, none⟩ x) (some g) :=
  ⟨heap_setCell_same w g o _ _ x h, ⟨rfl, rfl, rfl, by simp, fun k _ hk => heap_setCell_other w ⟨g, o, none⟩ k x (fun e => hk (by simp [e]))⟩⟩
theorem Tb.sPc (h : Tb w g tv pc rv pv ov kv sl en v fp fr ed) (z : Int) : Tb (w.setCell ⟨g, 1, none⟩ (.int .i64 z)) g tv z rv pv ov kv sl en v fp fr ed ∧ w.grownBy (w.setCell ⟨g, 1, none⟩ (.int .i64 z)) (some g) := tb_set h 1 _
theorem Tb.sPu (h : Tb w g tv pc rv pv ov kv sl en v fp fr ed) (z : Value) : Tb (w.setCell ⟨g, 3, none⟩ z) g tv pc rv z ov kv sl en v fp fr ed ∧ w.grownBy (w.setCell ⟨g, 3, none⟩ z) (some g) := tb_set h 3 _
theorem Tb.sOu (h : Tb w g tv pc rv pv ov kv sl en v fp fr ed) (z : Value) : Tb (w.setCell ⟨g, 4, none⟩ z) g tv pc rv pv z kv sl en v fp fr ed ∧ w.grownBy (w.setCell ⟨g, 4, none⟩ z) (some g) := tb_set h 4 _
theorem Tb.sKi (h : Tb w g tv pc rv pv ov kv sl en v fp fr ed) (z : Value) : Tb (w.setCell ⟨g, 5, none⟩ z) g tv pc rv pv ov z sl en v fp fr ed ∧ w.grownBy (w.setCell ⟨g, 5, none⟩ z) (some g) := tb_set h 5 _
theorem Tb.sSl (h : Tb w g tv pc rv pv ov kv sl en v fp fr ed) (z : Int) : Tb (w.setCell ⟨g, 6, none⟩ (.int .i64 z)) g tv pc rv pv ov kv z en v fp fr ed ∧ w.grownBy (w.setCell ⟨g, 6, none⟩ (.int .i64 z)) (some g) := tb_set h 6 _
theorem Tb.sEn (h : Tb w g tv pc rv pv ov kv sl en v fp fr ed) (z : Int) : Tb (w.setCell ⟨g, 7, none⟩ (.int .i64 z)) g tv pc rv pv ov kv sl z v fp fr ed ∧ w.grownBy (w.setCell ⟨g, 7, none⟩ (.int .i64 z)) (some g) := tb_set h 7 _
theorem Tb.sEd (h : Tb w g tv pc rv pv ov kv sl en v fp fr ed) (z : Bool) : Tb (w.setCell ⟨g, 13, none⟩ (.bool z)) g tv pc rv pv ov kv sl en v fp fr z ∧ w.grownBy (w.setCell ⟨g, 13, none⟩ (.bool z)) (some g) := tb_set h 13 _
theorem Tb.sFr (h : Tb w g tv pc rv pv ov kv sl en v fp fr ed) (z : Int) (y : Value) : Tb ((w.setCell ⟨g, 11, none⟩ (.int .i64 z)).setCell ⟨g, 12, none⟩ y) g tv pc rv pv ov kv sl en v z y ed ∧ w.grownBy ((w.setCell ⟨g, 11, none⟩ (.int .i64 z)).setCell ⟨g, 12, none⟩ y) (some g) := by
  have h1 := tb_set h 11 (.int .i64 z)
  have h1' : Tb (w.setCell ⟨g, 11, none⟩ (.int .i64 z)) g tv pc rv pv ov kv sl en v z fr ed := h1.1
  have h2 := tb_set h1' 12 y
  exact ⟨h2.1, grown_trans h1.2 h2.2 (.inl rfl)⟩
theorem Tb.sVa (h : Tb w g tv pc rv pv ov kv sl en v fp fr ed) (x : V) : Tb (((w.setCell ⟨g, 8, none⟩ (.int .i64 x.k)).setCell ⟨g, 9, none⟩ (.int .i64 x.n)).setCell ⟨g, 10, none⟩ (.string x.s)) g tv pc rv pv ov kv sl en x fp fr ed ∧ w.grownBy (((w.setCell ⟨g, 8, none⟩ (.int .i64 x.k)).setCell ⟨g, 9, none⟩ (.int .i64 x.n)).setCell ⟨g, 10, none⟩ (.string x.s)) (some g) := by
  have h1 := tb_set h 8 (.int .i64 x.k)
  have h1' : Tb (w.setCell ⟨g, 8, none⟩ (.int .i64 x.k)) g tv pc rv pv ov kv sl en ⟨x.k, v.n, v.s⟩ fp fr ed := h1.1
  have h2 := tb_set h1' 9 (.int .i64 x.n)
  have h2' : Tb ((w.setCell ⟨g, 8, none⟩ (.int .i64 x.k)).setCell ⟨g, 9, none⟩ (.int .i64 x.n)) g tv pc rv pv ov kv sl en ⟨x.k, x.n, v.s⟩ fp fr ed := h2.1
  have h3 := tb_set h2' 10 (.string x.s)
  exact ⟨h3.1, grown_trans (grown_trans h1.2 h2.2 (.inl rfl)) h3.2 (.inl rfl)⟩
end

/-- The rows of a step lie apart. -/
structure Ap (g : Nat) (rv pv ov kv : Value) : Prop where
  r : ∀ k, rv.ownBlock = some k → k ≠ g ∧ pv.ownBlock ≠ some k ∧ ov.ownBlock ≠ some k ∧ kv.ownBlock ≠ some k
  p : ∀ k, pv.ownBlock = some k → k ≠ g ∧ ov.ownBlock ≠ some k ∧ kv.ownBlock ≠ some k
  o : ∀ k, ov.ownBlock = some k → k ≠ g ∧ kv.ownBlock ≠ some k
  k : ∀ k, kv.ownBlock = some k → k ≠ g
/-- The state of a step in memory. -/
structure Mb (B : Bd) (w : World) (g : Nat) (tv : Value) (S : Ms) (rv pv ov kv : Value) : Prop where
  tb : Tb w g tv S.pc rv pv ov kv S.sl 0 ⟨0, 0, ⟨#[]⟩⟩ 0 (.slice none 0 0) false
  gB : Bk B g
  dl : B.2 < w.heap.size
  nd : ∀ k, (rv.ownBlock = some k ∨ pv.ownBlock = some k ∨ ov.ownBlock = some k ∨ kv.ownBlock = some k) → k ≠ B.2
  rg : OwR V.cells 3 31 w B.1 rv S.rg
  pu : OwR Wr.cells 7 62 w B.1 pv S.pu
  ou : OwR V.cells 3 31 w B.1 ov S.ou
  ki : OwR Sp.cells 7 64 w B.1 kv S.ki
  ap : Ap g rv pv ov kv
/-- Its end: in which way, and with which value. -/
structure Me (B : Bd) (w : World) (g : Nat) (tv : Value) (S : Ms) (en : Int) (v : V) (rv pv ov kv : Value) : Prop where
  tb : ∃ fp fr, Tb w g tv S.pc rv pv ov kv S.sl en v fp fr true ∧ ((en = 0 ∧ fp = S.pc ∧ fr = rv) ∨ (en ≠ 0 ∧ fp = 0 ∧ fr = .slice none 0 0))
  rg : OwR V.cells 3 31 w B.1 rv S.rg
  pu : OwR Wr.cells 7 62 w B.1 pv S.pu
  ou : OwR V.cells 3 31 w B.1 ov S.ou
  ki : OwR Sp.cells 7 64 w B.1 kv S.ki
theorem ne_of {v : Value} {g : Nat} (h : ∀ k, v.ownBlock = some k → k ≠ g) : v.ownBlock = none ∨ v.ownBlock ≠ some g := by
  cases hv : v.ownBlock with
  | none => exact .inl rfl
  | some k => exact .inr (fun e => h k hv (Option.some.inj e))
theorem ne_bl {v u : Value} (h : ∀ k, v.ownBlock = some k → u.ownBlock ≠ some k) : v.ownBlock = none ∨ v.ownBlock ≠ u.ownBlock := by
  cases hv : v.ownBlock with
  | none => exact .inl rfl
  | some k => exact .inr (fun e => h k hv e.symm)
section
variable {B : Bd} {g : Nat} {w w' : World} {tv rv pv ov kv : Value} {S : Ms}
theorem Mb.keptN (h : Mb B w g tv S rv pv ov kv) (hg : w.grownBy w' none) : Mb B w' g tv S rv pv ov kv :=
  ⟨h.tb.kept hg (by simp), h.gB, Nat.lt_of_lt_of_le h.dl hg.size, h.nd, h.rg.keptN hg, h.pu.keptN hg, h.ou.keptN hg, h.ki.keptN hg, h.ap⟩
/-- What stands in a block that the step doesn't know is turned. -/
theorem Mb.kb (h : Mb B w g tv S rv pv ov kv) {p : Nat} (hg : w.grownBy w' (some p)) (hp : p ≠ g ∧ rv.ownBlock ≠ some p ∧ pv.ownBlock ≠ some p ∧ ov.ownBlock ≠ some p ∧ kv.ownBlock ≠ some p) : Mb B w' g tv S rv pv ov kv :=
  ⟨h.tb.kept hg (fun e => hp.1 (Option.some.inj e).symm), h.gB, Nat.lt_of_lt_of_le h.dl hg.size, h.nd, h.rg.kept hg (.inr hp.2.1), h.pu.kept hg (.inr hp.2.2.1), h.ou.kept hg (.inr hp.2.2.2.1), h.ki.kept hg (.inr hp.2.2.2.2), h.ap⟩
/-- A block that is new to the step. -/
theorem Mb.new (h : Mb B w g tv S rv pv ov kv) {p : Nat} (hp : w.heap.size ≤ p) : p ≠ g ∧ rv.ownBlock ≠ some p ∧ pv.ownBlock ≠ some p ∧ ov.ownBlock ≠ some p ∧ kv.ownBlock ≠ some p :=
  ⟨by have := h.tb.lt; omega, fun e => by have := (h.rg.lt _ e).2; omega, fun e => by have := (h.pu.lt _ e).2; omega, fun e => by have := (h.ou.lt _ e).2; omega, fun e => by have := (h.ki.lt _ e).2; omega⟩
theorem Mb.lt (h : Mb B w g tv S rv pv ov kv) : g < w.heap.size := h.tb.lt
theorem Mb.rB (h : Mb B w g tv S rv pv ov kv) : ∀ k, rv.ownBlock = some k → Bk B k := fun k e => ⟨(h.rg.lt k e).1, h.nd k (.inl e)⟩
theorem Mb.puB (h : Mb B w g tv S rv pv ov kv) : ∀ k, pv.ownBlock = some k → Bk B k := fun k e => ⟨(h.pu.lt k e).1, h.nd k (.inr (.inl e))⟩
theorem Mb.ouB (h : Mb B w g tv S rv pv ov kv) : ∀ k, ov.ownBlock = some k → Bk B k := fun k e => ⟨(h.ou.lt k e).1, h.nd k (.inr (.inr (.inl e)))⟩
theorem Mb.kiB (h : Mb B w g tv S rv pv ov kv) : ∀ k, kv.ownBlock = some k → Bk B k := fun k e => ⟨(h.ki.lt k e).1, h.nd k (.inr (.inr (.inr e)))⟩
theorem Mb.newB (h : Mb B w g tv S rv pv ov kv) {p : Nat} (hp : w.heap.size ≤ p) : Bk B p := ⟨by have := h.gB.1; have := h.tb.lt; omega, by have := h.dl; omega⟩
/-- What stands in the step's own block is turned. -/
theorem Mb.own (h : Mb B w g tv S rv pv ov kv) (hg : w.grownBy w' (some g)) : OwR V.cells 3 31 w' B.1 rv S.rg ∧ OwR Wr.cells 7 62 w' B.1 pv S.pu ∧ OwR V.cells 3 31 w' B.1 ov S.ou ∧ OwR Sp.cells 7 64 w' B.1 kv S.ki :=
  ⟨h.rg.kept hg (ne_of fun k e => (h.ap.r k e).1), h.pu.kept hg (ne_of fun k e => (h.ap.p k e).1), h.ou.kept hg (ne_of fun k e => (h.ap.o k e).1), h.ki.kept hg (ne_of fun k e => h.ap.k k e)⟩
theorem Mb.to (h : Mb B w g tv S rv pv ov kv) (z : Int) : Mb B (w.setCell ⟨g, 1, none⟩ (.int .i64 z)) g tv (S.to z) rv pv ov kv ∧ w.grownBy (w.setCell ⟨g, 1, none⟩ (.int .i64 z)) (some g) := by
  have h1 := h.tb.sPc z
  obtain ⟨a, b, c, d⟩ := h.own h1.2
  exact ⟨⟨h1.1, h.gB, Nat.lt_of_lt_of_le h.dl h1.2.size, h.nd, a, b, c, d, h.ap⟩, h1.2⟩
theorem Mb.sl (h : Mb B w g tv S rv pv ov kv) (z : Int) : Mb B (w.setCell ⟨g, 6, none⟩ (.int .i64 z)) g tv ⟨S.pc, S.rg, S.pu, S.ou, S.ki, z⟩ rv pv ov kv ∧ w.grownBy (w.setCell ⟨g, 6, none⟩ (.int .i64 z)) (some g) := by
  have h1 := h.tb.sSl z
  obtain ⟨a, b, c, d⟩ := h.own h1.2
  exact ⟨⟨h1.1, h.gB, Nat.lt_of_lt_of_le h.dl h1.2.size, h.nd, a, b, c, d, h.ap⟩, h1.2⟩
/-- A register is turned. -/
theorem Mb.set {r cap : Nat} (h : Mb B w g tv S (.slice (some ⟨r, 0, none⟩) S.rg.length cap) pv ov kv) (i : Nat) (hi : i < S.rg.length) (x : V) :
    Mb B (w.setCells r (i * 3) (V.cells x)) g tv (S.set (i : Int) x) (.slice (some ⟨r, 0, none⟩) S.rg.length cap) pv ov kv ∧ w.grownBy (w.setCells r (i * 3) (V.cells x)) (some r) := by
  have h1 := OwR.put clV h.rg i hi x
  obtain ⟨n1, n2, n3, n4⟩ := h.ap.r r rfl
  have e : ∀ {u : Value}, u.ownBlock ≠ some r → (u.ownBlock = none ∨ u.ownBlock ≠ some r) := fun h => .inr h
  refine ⟨⟨h.tb.kept h1.2 (by simp; omega), h.gB, Nat.lt_of_lt_of_le h.dl h1.2.size, h.nd, ?_, h.pu.kept h1.2 (e n2), h.ou.kept h1.2 (e n3), h.ki.kept h1.2 (e n4), h.ap⟩, h1.2⟩
  exact h1.1
/-- An entry is turned. -/
theorem Mb.ent {r cap : Nat} (h : Mb B w g tv S rv (.slice (some ⟨r, 0, none⟩) S.pu.length cap) ov kv) (i : Nat) (hi : i < S.pu.length) (x : Wr) :
    Mb B (w.setCells r (i * 7) (Wr.cells x)) g tv ⟨S.pc, S.rg, S.pu.set i x, S.ou, S.ki, S.sl⟩ rv (.slice (some ⟨r, 0, none⟩) S.pu.length cap) ov kv ∧ w.grownBy (w.setCells r (i * 7) (Wr.cells x)) (some r) := by
  have h1 := OwR.put clW h.pu i hi x
  obtain ⟨n1, n2, n3⟩ := h.ap.p r rfl
  have e : ∀ {u : Value}, u.ownBlock ≠ some r → (u.ownBlock = none ∨ u.ownBlock ≠ some r) := fun h => .inr h
  have hr : rv.ownBlock ≠ some r := fun hh => (h.ap.r r hh).2.1 rfl
  exact ⟨⟨h.tb.kept h1.2 (by simp; omega), h.gB, Nat.lt_of_lt_of_le h.dl h1.2.size, h.nd, h.rg.kept h1.2 (e hr), h1.1, h.ou.kept h1.2 (e n2), h.ki.kept h1.2 (e n3), h.ap⟩, h1.2⟩
/-- Behind an append to one of the rows, the new one isn't stored yet. -/
theorem apart {v v' : Value} (h : v'.ownBlock = v.ownBlock ∨ v'.ownBlock = some w.heap.size) {P : Nat → Prop} (h1 : ∀ k, v.ownBlock = some k → P k) (h2 : P w.heap.size) : ∀ k, v'.ownBlock = some k → P k := by
  intro k hk
  rcases h with h | h
  · exact h1 k (h ▸ hk)
  · rw [h] at hk
    cases hk
    exact h2
theorem not_new {α : Type} {c : α → List Value} {n : Nat} {e : TypeId} {v : Value} {l : List α} {b : Nat} (h : OwR c n e w b v l) : v.ownBlock ≠ some w.heap.size := fun hh => by have := (h.lt _ hh).2; omega
theorem Mb.appP (h : Mb B w g tv S rv pv ov kv) {pv' : Value} {pu' : List Wr} (hO : OwR Wr.cells 7 62 w' B.1 pv' pu') (hg : w.grownBy w' pv.ownBlock) (hw : pv'.ownBlock = pv.ownBlock ∨ pv'.ownBlock = some w.heap.size) :
    Mb B (w'.setCell ⟨g, 3, none⟩ pv') g tv ⟨S.pc, S.rg, pu', S.ou, S.ki, S.sl⟩ rv pv' ov kv := by
  have ht := h.tb.kept hg (fun e => (h.ap.p g e.symm).1 rfl)
  have h1 := ht.sPu pv'
  have ap : Ap g rv pv' ov kv := by
    refine ⟨fun k hk => ?_, apart hw (fun k hk => h.ap.p k hk) ⟨fun e => by have := h.lt; omega, not_new h.ou, not_new h.ki⟩, h.ap.o, h.ap.k⟩
    obtain ⟨a1, a2, a3, a4⟩ := h.ap.r k hk
    exact ⟨a1, fun e => by
      rcases hw with hw | hw
      · exact a2 (hw ▸ e)
      · rw [hw] at e; cases e; exact not_new h.rg hk, a3, a4⟩
  have hr := h.rg.kept hg (ne_bl fun k hk => (h.ap.r k hk).2.1)
  have ho := h.ou.kept hg (ne_bl fun k hk e => (h.ap.p k e).2.1 hk)
  have hk := h.ki.kept hg (ne_bl fun k hk e => (h.ap.p k e).2.2 hk)
  exact ⟨h1.1, h.gB, Nat.lt_of_lt_of_le h.dl (Nat.le_trans hg.size h1.2.size), fun k hk => by
    rcases hk with hk | hk | hk | hk
    · exact h.nd k (.inl hk)
    · exact apart (w := w) (P := fun k => k ≠ B.2) hw (fun k hh => h.nd k (.inr (.inl hh))) (fun e => by have := h.dl; omega) k hk
    · exact h.nd k (.inr (.inr (.inl hk)))
    · exact h.nd k (.inr (.inr (.inr hk))), hr.kept h1.2 (ne_of fun k e => (ap.r k e).1), hO.kept h1.2 (ne_of fun k e => (ap.p k e).1), ho.kept h1.2 (ne_of fun k e => (ap.o k e).1), hk.kept h1.2 (ne_of fun k e => ap.k k e), ap⟩
theorem Mb.appO (h : Mb B w g tv S rv pv ov kv) {ov' : Value} {ou' : List V} (hO : OwR V.cells 3 31 w' B.1 ov' ou') (hg : w.grownBy w' ov.ownBlock) (hw : ov'.ownBlock = ov.ownBlock ∨ ov'.ownBlock = some w.heap.size) :
    Mb B (w'.setCell ⟨g, 4, none⟩ ov') g tv ⟨S.pc, S.rg, S.pu, ou', S.ki, S.sl⟩ rv pv ov' kv := by
  have ht := h.tb.kept hg (fun e => (h.ap.o g e.symm).1 rfl)
  have h1 := ht.sOu ov'
  have no : ∀ {k : Nat} {u : Value}, u.ownBlock = some k → (ov.ownBlock ≠ some k) → (k ≠ w.heap.size) → ov'.ownBlock ≠ some k := fun hu a b e => by
    rcases hw with hw | hw
    · exact a (hw ▸ e)
    · rw [hw] at e; cases e; exact b rfl
  have ap : Ap g rv pv ov' kv := by
    refine ⟨fun k hk => ?_, fun k hk => ?_, apart hw (fun k hk => h.ap.o k hk) ⟨fun e => by have := h.lt; omega, not_new h.ki⟩, h.ap.k⟩
    · obtain ⟨a1, a2, a3, a4⟩ := h.ap.r k hk
      exact ⟨a1, a2, no hk a3 (fun e => not_new h.rg (e ▸ hk)), a4⟩
    · obtain ⟨a1, a2, a3⟩ := h.ap.p k hk
      exact ⟨a1, no hk a2 (fun e => not_new h.pu (e ▸ hk)), a3⟩
  have hr := h.rg.kept hg (ne_bl fun k hk => (h.ap.r k hk).2.2.1)
  have hp := h.pu.kept hg (ne_bl fun k hk => (h.ap.p k hk).2.1)
  have hk := h.ki.kept hg (ne_bl fun k hk e => (h.ap.o k e).2 hk)
  exact ⟨h1.1, h.gB, Nat.lt_of_lt_of_le h.dl (Nat.le_trans hg.size h1.2.size), fun k hk => by
    rcases hk with hk | hk | hk | hk
    · exact h.nd k (.inl hk)
    · exact h.nd k (.inr (.inl hk))
    · exact apart (w := w) (P := fun k => k ≠ B.2) hw (fun k hh => h.nd k (.inr (.inr (.inl hh)))) (fun e => by have := h.dl; omega) k hk
    · exact h.nd k (.inr (.inr (.inr hk))), hr.kept h1.2 (ne_of fun k e => (ap.r k e).1), hp.kept h1.2 (ne_of fun k e => (ap.p k e).1), hO.kept h1.2 (ne_of fun k e => (ap.o k e).1), hk.kept h1.2 (ne_of fun k e => ap.k k e), ap⟩
theorem Mb.appK (h : Mb B w g tv S rv pv ov kv) {kv' : Value} {ki' : List Sp} (hO : OwR Sp.cells 7 64 w' B.1 kv' ki') (hg : w.grownBy w' kv.ownBlock) (hw : kv'.ownBlock = kv.ownBlock ∨ kv'.ownBlock = some w.heap.size) :
    Mb B (w'.setCell ⟨g, 5, none⟩ kv') g tv ⟨S.pc, S.rg, S.pu, S.ou, ki', S.sl⟩ rv pv ov kv' := by
  have ht := h.tb.kept hg (fun e => h.ap.k g e.symm rfl)
  have h1 := ht.sKi kv'
  have no : ∀ {k : Nat} {u : Value}, u.ownBlock = some k → (kv.ownBlock ≠ some k) → (k ≠ w.heap.size) → kv'.ownBlock ≠ some k := fun hu a b e => by
    rcases hw with hw | hw
    · exact a (hw ▸ e)
    · rw [hw] at e; cases e; exact b rfl
  have ap : Ap g rv pv ov kv' := by
    refine ⟨fun k hk => ?_, fun k hk => ?_, fun k hk => ?_, apart hw (fun k hk => h.ap.k k hk) (fun e => by have := h.lt; omega)⟩
    · obtain ⟨a1, a2, a3, a4⟩ := h.ap.r k hk
      exact ⟨a1, a2, a3, no hk a4 (fun e => not_new h.rg (e ▸ hk))⟩
    · obtain ⟨a1, a2, a3⟩ := h.ap.p k hk
      exact ⟨a1, a2, no hk a3 (fun e => not_new h.pu (e ▸ hk))⟩
    · obtain ⟨a1, a2⟩ := h.ap.o k hk
      exact ⟨a1, no hk a2 (fun e => not_new h.ou (e ▸ hk))⟩
  have hr := h.rg.kept hg (ne_bl fun k hk => (h.ap.r k hk).2.2.2)
  have hp := h.pu.kept hg (ne_bl fun k hk => (h.ap.p k hk).2.2)
  have ho := h.ou.kept hg (ne_bl fun k hk => (h.ap.o k hk).2)
  exact ⟨h1.1, h.gB, Nat.lt_of_lt_of_le h.dl (Nat.le_trans hg.size h1.2.size), fun k hk => by
    rcases hk with hk | hk | hk | hk
    · exact h.nd k (.inl hk)
    · exact h.nd k (.inr (.inl hk))
    · exact h.nd k (.inr (.inr (.inl hk)))
    · exact apart (w := w) (P := fun k => k ≠ B.2) hw (fun k hh => h.nd k (.inr (.inr (.inr hh)))) (fun e => by have := h.dl; omega) k hk, hr.kept h1.2 (ne_of fun k e => (ap.r k e).1), hp.kept h1.2 (ne_of fun k e => (ap.p k e).1), ho.kept h1.2 (ne_of fun k e => (ap.o k e).1), hO.kept h1.2 (ne_of fun k e => ap.k k e), ap⟩
end

/-- What a deed answers and leaves. -/
def MR (B : Bd) (g : Nat) (tv : Value) (b : Bool) (w' : World) : Rs → Prop
  | none => b = false
  | some (S', none) => b = true ∧ ∃ rv pv ov kv, Mb B w' g tv S' rv pv ov kv
  | some (S', some (en, v)) => b = true ∧ ∃ rv pv ov kv, Me B w' g tv S' en v rv pv ov kv
def DP (B : Bd) (w : World) (g : Nat) (tv : Value) (R : Rs) (e : Ending) (w' : World) : Prop := ∃ b : Bool, e = .returned (.bool b) ∧ MR B g tv b w' R ∧ Kp (Bk B) w w'
theorem DP.go {B : Bd} {w : World} {g : Nat} {tv : Value} {S : Ms} {w' : World} {rv pv ov kv : Value} (h : Mb B w' g tv S rv pv ov kv) (hk : Kp (Bk B) w w') : DP B w g tv (.go S) (.returned (.bool true)) w' := ⟨true, rfl, ⟨rfl, _, _, _, _, h⟩, hk⟩
theorem DP.bad {B : Bd} {w : World} {g : Nat} {tv : Value} {w' : World} (hk : Kp (Bk B) w w') : DP B w g tv .bad (.returned (.bool false)) w' := ⟨false, rfl, rfl, hk⟩
theorem kp_of {B : Bd} {w w' : World} {g : Nat} (hg : w.grownBy w' (some g)) (h : Bk B g) : Kp (Bk B) w w' := Kp.ofGrown hg (fun k e _ => by cases e; exact h)
theorem kp_bl {B : Bd} {w w' : World} {v : Value} (hO : ∀ k, v.ownBlock = some k → Bk B k) (hg : w.grownBy w' v.ownBlock) : Kp (Bk B) w w' := Kp.ofGrown hg (fun k e _ => hO k e)
theorem kp_n {B : Bd} {w w' : World} (hg : w.grownBy w' none) : Kp (Bk B) w w' := Kp.ofN hg _
theorem grown_dr (w : World) : w.grownBy w.drew none := ⟨rfl, rfl, rfl, Nat.le_refl _, fun _ _ _ => rfl⟩
theorem cell_g {w w' : World} {b o : Nat} {v : Value} (hc : w.cell? ⟨b, o, none⟩ = some v) (h : w.grownBy w' none) : w'.cell? ⟨b, o, none⟩ = some v := (cell_same (h.block b (lt_of_cell hc) (by simp)) o).trans hc
theorem kp_base {w w' : World} {d : Nat} (h : Kp (Bk (w.heap.size, d)) w w') : w.grownBy w' none := (h.mono (fun k hk hb => by have := hb.1; dsimp only at this; omega)).grown
theorem kp_from {w w1 w' : World} {d : Nat} (hg : w.grownBy w1 none) (h : Kp (Bk (w.heap.size, d)) w1 w') : w.grownBy w' none := kp_base ((kp_n hg).then h)

end Go.Proofs.YtpoahegccjgnjaaGreatDoor
