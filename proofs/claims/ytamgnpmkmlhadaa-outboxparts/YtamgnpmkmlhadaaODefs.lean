/- What lies in memory: a message, rows of messages, a row that a box keeps from a place on. Conditions: those that each theorem states. -/
import Derived.Test.YtamgnpmkmlhadaaOMath
import Derived.Test.YtamgnpmkmlhadaaJB
namespace Go.Proofs.Ytamgnpmkmlhadaa
open Go Go.RowKit
set_option linter.unusedVariables false

theorem addr_plainO (b o q : Nat) : (⟨b, o, none⟩ : Addr).add q = ⟨b, o + q, none⟩ := by unfold Addr.add; split <;> simp_all
/-- Rows of elements of several cells. -/
structure Cl {α : Type} (c : α → List Value) (n : Nat) : Prop where
  len : ∀ x, (c x).length = n
  one : ∀ x, ∀ u ∈ c x, u.oneCell' = true
def fcs {α : Type} (c : α → List Value) (l : List α) : List Value := l.flatMap c
theorem fcs_append {α : Type} (c : α → List Value) (l m : List α) : fcs c (l ++ m) = fcs c l ++ fcs c m := by simp [fcs]
theorem fcs_len {α : Type} {c : α → List Value} {n : Nat} (h : Cl c n) (l : List α) : (fcs c l).length = l.length * n := by
  induction l with
  | nil => simp [fcs]
  | cons x l ih =>
    show (c x ++ fcs c l).length = (l.length + 1) * n
    rw [List.length_append, ih, h.len x, Nat.add_mul]
    omega
theorem fcs_one {α : Type} {c : α → List Value} {n : Nat} (h : Cl c n) (l : List α) : ∀ u ∈ fcs c l, u.oneCell' = true := by
  intro u hu
  obtain ⟨x, _, hx⟩ := List.mem_flatMap.1 hu
  exact h.one x u hx
theorem fcs_at {α : Type} {c : α → List Value} {n : Nat} (h : Cl c n) (l : List α) : ∀ (i j : Nat) (hi : i < l.length), j < n → (fcs c l)[i * n + j]? = (c l[i])[j]? := by
  induction l with
  | nil => intro i j hi; simp at hi
  | cons x l ih =>
    intro i j hi hj
    show (c x ++ fcs c l)[i * n + j]? = _
    rcases i with _ | i
    · rw [List.getElem?_append_left (by rw [h.len x]; omega), Nat.zero_mul, Nat.zero_add]
      rfl
    · rw [List.getElem?_append_right (by rw [h.len x, Nat.add_mul]; omega), h.len x]
      have h2 := ih i j (by simpa using hi) hj
      rw [show (i + 1) * n + j - n = i * n + j by rw [Nat.add_mul]; omega, h2]
      rfl
/-- A slice that reads as elements of several cells; and one that a call itself has made. -/
def Rw {α : Type} (c : α → List Value) (n : Nat) (w : World) (v : Value) (l : List α) : Prop :=
  ∃ a cap, v = .slice a l.length cap ∧ l.length ≤ cap ∧ cap ≤ maxLen ∧ ∀ i (h : i < l.length), ∃ b off, a = some ⟨b, off, none⟩ ∧ b < w.heap.size ∧ ∀ j u, (c l[i])[j]? = some u → w.cell? ⟨b, off + i * n + j, none⟩ = some u
theorem Rw.nil {α : Type} (c : α → List Value) (n : Nat) (w : World) : Rw c n w (.slice none 0 0) [] := ⟨none, 0, rfl, Nat.le_refl _, Nat.zero_le _, fun i h => absurd h (by simp)⟩
theorem Rw.keptN {α : Type} {c : α → List Value} {n : Nat} {w w' : World} {v : Value} {l : List α} (h : Rw c n w v l) (hg : w.grownBy w' none) : Rw c n w' v l := by
  obtain ⟨a, cap, rfl, h1, h2, h3⟩ := h
  refine ⟨a, cap, rfl, h1, h2, fun i hi => ?_⟩
  obtain ⟨b, off, rfl, hb, hc⟩ := h3 i hi
  exact ⟨b, off, rfl, Nat.lt_of_lt_of_le hb hg.size, fun j u hu => by rw [cell_same (hg.block b hb (by simp))]; exact hc j u hu⟩
def OwR {α : Type} (c : α → List Value) (n : Nat) (e : TypeId) (w : World) (B : Nat) (v : Value) (l : List α) : Prop := w.ownsRow B e n v l.length (fcs c l)
section
variable {α : Type} {c : α → List Value} {n : Nat} {e : TypeId} {w w' : World} {B : Nat} {v : Value} {l : List α}
theorem OwR.nil : OwR c n e w B (.slice none 0 0) ([] : List α) := World.ownsRow_nil w B e n
theorem OwR.lt (h : OwR c n e w B v l) : ∀ k, v.ownBlock = some k → B ≤ k ∧ k < w.heap.size := World.ownsRow.lt h
theorem OwR.kept {row : Option Nat} (h : OwR c n e w B v l) (hg : w.grownBy w' row) (hne : v.ownBlock = none ∨ v.ownBlock ≠ row) : OwR c n e w' B v l := World.ownsRow.kept h hg hne
theorem OwR.keptN (h : OwR c n e w B v l) (hg : w.grownBy w' none) : OwR c n e w' B v l := h.kept hg (by cases v.ownBlock <;> simp)
theorem OwR.shape (h : OwR c n e w B v l) : (v = .slice none 0 0 ∧ l = []) ∨ ∃ r cap, v = .slice (some ⟨r, 0, none⟩) l.length cap ∧ B ≤ r ∧ r < w.heap.size := by
  rcases h.2 with ⟨rfl, h0⟩ | ⟨g, cap, cur, rfl, hb, hg, _⟩
  · exact .inl ⟨rfl, List.eq_nil_of_length_eq_zero h0⟩
  · exact .inr ⟨g, cap, rfl, hb, (Array.getElem?_eq_some_iff.1 hg).1⟩
theorem OwR.cells (h : OwR c n e w B v l) (hc : Cl c n) {r : Nat} (hr : v.ownBlock = some r) (i : Nat) (hi : i < l.length) (j : Nat) (u : Value) (hu : (c l[i])[j]? = some u) : w.cell? ⟨r, i * n + j, none⟩ = some u := by
  have hj : j < n := by have := (List.getElem?_eq_some_iff.1 hu).1; rw [hc.len] at this; exact this
  have g0 := World.ownsRow.cells h (g := r) hr (i * n + j) u (by rw [fcs_at hc l i j hi hj]; exact hu)
  rw [addr_plainO, Nat.zero_add] at g0
  exact g0
theorem OwR.rw (h : OwR c n e w B v l) (hc : Cl c n) : Rw c n w v l := by
  have h' := h
  rcases h.2 with ⟨rfl, h0⟩ | ⟨g, cap, cur, rfl, hb, hg, hnc, hcm, hcs, htake⟩
  · have : l = [] := List.eq_nil_of_length_eq_zero h0
    subst this
    exact Rw.nil c n w
  · refine ⟨some ⟨g, 0, none⟩, cap, rfl, hnc, hcm, fun i hi => ⟨g, 0, rfl, (Array.getElem?_eq_some_iff.1 hg).1, fun j u hu => ?_⟩⟩
    rw [Nat.zero_add]
    exact OwR.cells h' hc rfl i hi j u hu
end
theorem Rw.src {α : Type} {c : α → List Value} {n : Nat} (hc : Cl c n) (hn : 0 < n) {w : World} {v : Value} {l : List α} (h : Rw c n w v l) (t e : TypeId) (ht : Try.prog.underlying t = some (.slice e)) : Src Try.prog n t v l.length (fcs c l) w := by
  obtain ⟨a, cap, rfl, h1, h2, h3⟩ := h
  cases l with
  | nil =>
    cases a with
    | none => exact Src.ofNil w ht cap
    | some a => exact Src.ofSlice w ht a 0 cap [] (by simp) (by simp) (by simp)
  | cons x l =>
    obtain ⟨b, off, rfl, _, _⟩ := h3 0 (by simp)
    refine Src.ofSlice w ht ⟨b, off, none⟩ _ cap _ (fcs_len hc _) (fun j u hu => ?_) (fcs_one hc _)
    have hj : j < (fcs c (x :: l)).length := (List.getElem?_eq_some_iff.1 hu).1
    rw [fcs_len hc] at hj
    have hi : j / n < (x :: l).length := (Nat.div_lt_iff_lt_mul hn).2 hj
    have hm : j % n < n := Nat.mod_lt _ hn
    have ej : j = j / n * n + j % n := by rw [Nat.mul_comm]; exact (Nat.div_add_mod j n).symm
    rw [ej, fcs_at hc _ _ _ hi hm] at hu
    obtain ⟨b', off', e', _, hcell⟩ := h3 (j / n) hi
    cases e'
    rw [addr_plainO]
    have := hcell (j % n) u hu
    rw [show off + j = off + j / n * n + j % n by omega]
    exact this
theorem rw_one {α : Type} {c : α → List Value} {n : Nat} {e : TypeId} {w : World} (x : α) {p : Nat} (h : w.heap[p]? = some (.cells (c x).toArray e (0, 0))) : Rw c n w (.slice (some ⟨p, 0, none⟩) 1 1) [x] := by
  refine ⟨some ⟨p, 0, none⟩, 1, rfl, Nat.le_refl _, by decide, fun i hi => ⟨p, 0, rfl, (Array.getElem?_eq_some_iff.1 h).1, fun j u hu => ?_⟩⟩
  have : i = 0 := by simp at hi; omega
  subst this
  rw [show 0 + 0 * n + j = j by omega, cell_of_row w p j _ e (0, 0) h]
  simpa using hu
/-- An append to a row, of elements of any size, that a call itself has laid, also of none to none. -/
theorem app_row (t e ty : TypeId) (z : Value) (sz by_ : Nat) (ht : Try.prog.underlying t = some (.slice e)) (hinfo : (Try.prog.info? e).map (fun i => (i.zero, i.size, i.bytes)) = some (some z, sz, by_)) (hzc : z.cells.size = sz) (hby : by_ ≤ 64)
    (w : World) (base : Nat) (v : Value) (n : Nat) (cs : List Value) (x : Value) (m : Nat) (ds : List Value) (hO : w.ownsRow base e sz v n cs) (hs : Src Try.prog sz t x m ds w) (hb : base ≤ w.heap.size) (hl : n + m ≤ 1000000000) :
    ∃ v' w', (Builtin.append_ #[t, t] ty #[v, x]).run Try.prog w = .ok v' w' ∧ w'.ownsRow base e sz v' (n + m) (cs ++ ds) ∧ w.grownBy w' v.ownBlock ∧ (v'.ownBlock = v.ownBlock ∨ v'.ownBlock = some w.heap.size) := by
  obtain ⟨i0, hi, hz0, hz1, hz2⟩ := info_parts hinfo
  by_cases h0 : 0 < n + m
  · exact run_append_own_row (P := Try.prog) w base t t ty e i0 z sz by_ ht hi hz0 hzc hz1 hz2 v n cs hO x m ds hs h0 (by
      have : (n + m) * by_ ≤ 1000000000 * 64 := Nat.mul_le_mul hl hby
      omega) (by unfold maxLen; omega) hb
  · obtain rfl : n = 0 := by omega
    obtain rfl : m = 0 := by omega
    have hd : ds = [] := List.eq_nil_of_length_eq_zero (by have := hs.newsLen; simpa using this)
    subst hd
    have hs' : Src Try.prog i0.size t x 0 [] w := by rw [hz1]; exact hs
    have hf := hs'.cells
    refine ⟨v, w, ?_, by rw [List.append_nil]; exact hO, ⟨rfl, rfl, rfl, Nat.le_refl _, fun _ _ _ => rfl⟩, .inl rfl⟩
    rcases hO.2 with ⟨rfl, _⟩ | ⟨g, cap, cur, rfl, _⟩
    · simp [Builtin.append_, run_underlying ht, sizeOf, typeInfo, hi, hs'.len, hf]
    · simp [Builtin.append_, run_underlying ht, sizeOf, typeInfo, hi, hs'.len, hf, Addr.add_lit, storeCells]
theorem Rw.kp {α : Type} {c : α → List Value} {n : Nat} {S : Nat → Prop} {w w' : World} {v : Value} {l : List α} (h : Rw c n w v l) (hk : Kp S w w') (hB : ∀ b off m cap, v = .slice (some ⟨b, off, none⟩) m cap → ¬ S b) : Rw c n w' v l := by
  obtain ⟨a, cap, rfl, h1, h2, h3⟩ := h
  refine ⟨a, cap, rfl, h1, h2, fun i hi => ?_⟩
  obtain ⟨b, off, rfl, hb, hc⟩ := h3 i hi
  exact ⟨b, off, rfl, Nat.lt_of_lt_of_le hb hk.size, fun j u hu => hk.cell (hc j u hu) (hB b off _ cap rfl)⟩
theorem Rw.take {α : Type} {c : α → List Value} {n : Nat} {w : World} {a : Option Addr} {cap : Nat} {l : List α} (h : Rw c n w (.slice a l.length cap) l) (m : Nat) (hm : m ≤ l.length) : Rw c n w (.slice a m cap) (l.take m) := by
  obtain ⟨a', c', e, h1, h2, h3⟩ := h
  cases e
  refine ⟨a, cap, by rw [List.length_take, Nat.min_eq_left hm], by rw [List.length_take]; omega, h2, fun i hi => ?_⟩
  have hi' : i < m := by rw [List.length_take] at hi; omega
  obtain ⟨b, off, e, hb, hc⟩ := h3 i (by omega)
  exact ⟨b, off, e, hb, fun j u hu => hc j u (by rw [List.getElem_take] at hu; exact hu)⟩
theorem Rw.dropM {α : Type} {c : α → List Value} {n : Nat} {w : World} {a : Option Addr} {cap : Nat} {l : List α} (h : Rw c n w (.slice a l.length cap) l) (m : Nat) (hm : m ≤ l.length) : Rw c n w (.slice (a.map (fun x => x.add (m * n))) (l.length - m) (cap - m)) (l.drop m) := by
  obtain ⟨a', c', e, h1, h2, h3⟩ := h
  cases e
  refine ⟨_, cap - m, by rw [List.length_drop], by rw [List.length_drop]; omega, by omega, fun i hi => ?_⟩
  have hi' : m + i < l.length := by rw [List.length_drop] at hi; omega
  obtain ⟨b, off, rfl, hb, hc⟩ := h3 (m + i) hi'
  refine ⟨b, off + m * n, by simp [addr_plainO], hb, fun j u hu => ?_⟩
  rw [List.getElem_drop] at hu
  have := hc j u hu
  rw [Nat.add_mul] at this
  rw [show off + m * n + i * n + j = off + (m * n + i * n) + j by omega]
  exact this
theorem Rw.drop0 {α : Type} {c : α → List Value} {n : Nat} {w : World} {a : Option Addr} {cap : Nat} {l : List α} (h : Rw c n w (.slice a l.length cap) l) (m : Nat) (hm : l.length ≤ m) (b : Option Addr) (k : Nat) (hk : k ≤ maxLen) : Rw c n w (.slice b 0 k) (l.drop m) := by
  have e : l.drop m = [] := List.drop_of_length_le hm
  rw [e]
  exact ⟨b, k, rfl, Nat.zero_le _, hk, fun i hi => absurd hi (by simp)⟩

theorem clM : Cl Ms.cells 6 := ⟨fun _ => rfl, fun x u hu => by simp only [Ms.cells, List.mem_cons, List.not_mem_nil, or_false] at hu; rcases hu with rfl | rfl | rfl | rfl | rfl | rfl <;> rfl⟩
theorem infoM : (Try.prog.info? 26).map (fun i => (i.zero, i.size, i.bytes)) = some (some (.agg #[.int .i64 0, .int .i64 0, .int .i64 0, .int .i64 0, .int .i64 0, .string ByteArray.empty]), 6, 56) := by kernel_rfl
abbrev RwM (w : World) (v : Value) (l : List Ms) : Prop := Rw Ms.cells 6 w v l
abbrev OwM (w : World) (B : Nat) (v : Value) (l : List Ms) : Prop := OwR Ms.cells 6 26 w B v l
theorem OwR.kp {α : Type} {c : α → List Value} {n : Nat} {e : TypeId} {B : Nat} {v : Value} {l : List α} {w w' : World} {S : Nat → Prop} (h : OwR c n e w B v l) (hk : Kp S w w') (hS : ∀ k, v.ownBlock = some k → ¬ S k) : OwR c n e w' B v l := by
  rcases h.2 with ⟨rfl, h0⟩ | ⟨g, cap, cur, rfl, hb, hg, h1, h2, h3, h4⟩
  · exact ⟨h.1, .inl ⟨rfl, h0⟩⟩
  · have hlt : g < w.heap.size := (Array.getElem?_eq_some_iff.1 hg).1
    exact ⟨h.1, .inr ⟨g, cap, cur, rfl, hb, by rw [hk.block g hlt (hS g rfl)]; exact hg, h1, h2, h3, h4⟩⟩
theorem OwR.mono {α : Type} {c : α → List Value} {n : Nat} {e : TypeId} {B B' : Nat} {v : Value} {l : List α} {w : World} (h : OwR c n e w B v l) (hb : B' ≤ B) : OwR c n e w B' v l := by
  rcases h.2 with ⟨rfl, h0⟩ | ⟨g, cap, cur, rfl, hb', hg, h1, h2, h3, h4⟩
  · exact ⟨h.1, .inl ⟨rfl, h0⟩⟩
  · exact ⟨h.1, .inr ⟨g, cap, cur, rfl, Nat.le_trans hb hb', hg, h1, h2, h3, h4⟩⟩
/-- Messages that are appended to a row that the call itself has made, or to none. -/
theorem appM (w : World) (base : Nat) (v x : Value) (l k : List Ms) (hO : OwM w base v l) (hs : RwM w x k) (hb : base ≤ w.heap.size) (hl : l.length + k.length ≤ 1000000000) :
    ∃ v' w', (Builtin.append_ #[39, 39] 39 #[v, x]).run Try.prog w = .ok v' w' ∧ OwM w' base v' (l ++ k) ∧ w.grownBy w' v.ownBlock ∧ (v'.ownBlock = v.ownBlock ∨ v'.ownBlock = some w.heap.size) := by
  obtain ⟨v', w', h1, h2, h3, h4⟩ := app_row 39 26 39 _ 6 56 Try.underlying39 infoM rfl (by omega) w base v _ _ x _ _ hO (hs.src clM (by omega) 39 26 Try.underlying39) hb hl
  refine ⟨v', w', h1, ?_, h3, h4⟩
  unfold OwM OwR
  rw [List.length_append, fcs_append]
  exact h2

/-- A message in a block of its own. -/
def Mb (w : World) (b : Nat) (m : Ms) : Prop := w.heap[b]? = some (.cells #[.int .i64 m.q, .int .i64 m.f, .int .i64 m.t, .int .i64 m.v.k, .int .i64 m.v.n, .string m.v.s] 26 (0, 0))
theorem Mb.cs {w : World} {b : Nat} {m : Ms} (h : Mb w b m) : w.cell? ⟨b, 0, none⟩ = some (.int .i64 m.q) ∧ w.cell? ⟨b, 1, none⟩ = some (.int .i64 m.f) ∧ w.cell? ⟨b, 2, none⟩ = some (.int .i64 m.t) ∧ w.cell? ⟨b, 3, none⟩ = some (.int .i64 m.v.k) ∧ w.cell? ⟨b, 4, none⟩ = some (.int .i64 m.v.n) ∧ w.cell? ⟨b, 5, none⟩ = some (.string m.v.s) := by
  refine ⟨?_, ?_, ?_, ?_, ?_, ?_⟩
  · rw [cell_of_row w b 0 _ 26 (0, 0) h]; rfl
  · rw [cell_of_row w b 1 _ 26 (0, 0) h]; rfl
  · rw [cell_of_row w b 2 _ 26 (0, 0) h]; rfl
  · rw [cell_of_row w b 3 _ 26 (0, 0) h]; rfl
  · rw [cell_of_row w b 4 _ 26 (0, 0) h]; rfl
  · rw [cell_of_row w b 5 _ 26 (0, 0) h]; rfl
theorem Mb.fz {w : World} {b : Nat} {m : Ms} (h : Mb w b m) (j : Nat) : w.frozen? ⟨b, j, none⟩ = false := by
  unfold World.frozen?
  rw [show w.heap[(⟨b, j, none⟩ : Addr).block]? = _ from h]
  simp
theorem Mb.lt {w : World} {b : Nat} {m : Ms} (h : Mb w b m) : b < w.heap.size := (Array.getElem?_eq_some_iff.1 h).1
theorem Mb.kept {w w' : World} {b : Nat} {m : Ms} {row : Option Nat} (h : Mb w b m) (hg : w.grownBy w' row) (hne : some b ≠ row) : Mb w' b m := by
  unfold Mb
  rw [hg.block b h.lt hne]
  exact h
theorem Mb.new (w : World) (m : Ms) : Mb (w.alloc (.cells #[.int .i64 m.q, .int .i64 m.f, .int .i64 m.t, .int .i64 m.v.k, .int .i64 m.v.n, .string m.v.s] 26)) w.heap.size m := heap_alloc_new w _
theorem Mb.put {w : World} {b : Nat} {m : Ms} (h : Mb w b m) (y : Ms) : Mb (w.setCells b 0 y.cells) b y ∧ w.grownBy (w.setCells b 0 y.cells) (some b) := by
  have h0 := heap_setCell_same w b 0 _ 26 (.int .i64 y.q) h
  have h1 := heap_setCell_same _ b 1 _ 26 (.int .i64 y.f) h0
  have h2 := heap_setCell_same _ b 2 _ 26 (.int .i64 y.t) h1
  have h3 := heap_setCell_same _ b 3 _ 26 (.int .i64 y.v.k) h2
  have h4 := heap_setCell_same _ b 4 _ 26 (.int .i64 y.v.n) h3
  have h5 := heap_setCell_same _ b 5 _ 26 (.string y.v.s) h4
  refine ⟨h5, ?_⟩
  have k := Kp.setCells (S := fun k => k = b) b rfl y.cells 0 w
  exact ⟨k.os, k.tape, k.output, k.size, fun i hi hn => k.block i hi (fun e => hn (by rw [e]))⟩
theorem rw_oneM {w : World} (x : Ms) {p : Nat} (h : Mb w p x) : RwM w (.slice (some ⟨p, 0, none⟩) 1 1) [x] := by
  refine ⟨some ⟨p, 0, none⟩, 1, rfl, Nat.le_refl _, by decide, fun i hi => ⟨p, 0, rfl, h.lt, fun j u hu => ?_⟩⟩
  have : i = 0 := by simp at hi; omega
  subst this
  rw [show 0 + 0 * 6 + j = j by omega, cell_of_row w p j _ 26 (0, 0) h]
  have hu' : (Ms.cells x)[j]? = some u := by simpa using hu
  rw [← hu']
  show (Ms.cells x).toArray[j]? = _
  rw [List.getElem?_toArray]

/-- Messages that a box keeps in a block of its own, from a place on. -/
def OwO (w : World) (v : Value) (l : List Ms) (g : Option Nat) : Prop :=
  (v = .slice none 0 0 ∧ l = [] ∧ g = none) ∨ ∃ b off cap, g = some b ∧ v = .slice (some ⟨b, off, none⟩) l.length cap ∧ b < w.heap.size ∧ l.length ≤ cap ∧ cap ≤ maxLen ∧ w.rangeAt b off (fcs Ms.cells l) ∧ w.there b off (cap * 6)
theorem OwO.nil (w : World) : OwO w (.slice none 0 0) [] none := .inl ⟨rfl, rfl, rfl⟩
theorem OwO.lt {w : World} {v : Value} {l : List Ms} {g : Option Nat} (h : OwO w v l g) : ∀ b, g = some b → b < w.heap.size := by
  rcases h with ⟨_, _, rfl⟩ | ⟨b, off, cap, rfl, _, hb, _⟩
  · intro b h; cases h
  · intro b h; cases h; exact hb
theorem OwO.kept {w w' : World} {v : Value} {l : List Ms} {g : Option Nat} {S : Nat → Prop} (h : OwO w v l g) (hk : Kp S w w') (hS : ∀ b, g = some b → ¬ S b) : OwO w' v l g := by
  rcases h with h | ⟨b, off, cap, rfl, rfl, hb, h1, h2, h3, h4⟩
  · exact .inl h
  · exact .inr ⟨b, off, cap, rfl, rfl, Nat.lt_of_lt_of_le hb hk.size, h1, h2, hk.rangeAt h3 (hS b rfl), hk.there h4 (hS b rfl)⟩
theorem OwO.len {w : World} {v : Value} {l : List Ms} {g : Option Nat} (h : OwO w v l g) : ∃ a c, v = .slice a l.length c ∧ l.length ≤ c ∧ c ≤ maxLen := by
  rcases h with ⟨rfl, rfl, _⟩ | ⟨b, off, cap, _, rfl, _, h1, h2, _⟩
  · exact ⟨none, 0, rfl, Nat.le_refl _, Nat.zero_le _⟩
  · exact ⟨_, cap, rfl, h1, h2⟩
theorem OwO.rw {w : World} {v : Value} {l : List Ms} {g : Option Nat} (h : OwO w v l g) : RwM w v l := by
  rcases h with ⟨rfl, rfl, _⟩ | ⟨b, off, cap, rfl, rfl, hb, h1, h2, h3, h4⟩
  · exact Rw.nil _ _ w
  · refine ⟨_, cap, rfl, h1, h2, fun i hi => ⟨b, off, rfl, hb, fun j u hu => ?_⟩⟩
    have hj : j < 6 := by have := (List.getElem?_eq_some_iff.1 hu).1; rw [clM.len] at this; exact this
    have := h3 (i * 6 + j) u (by rw [fcs_at clM l i j hi hj]; exact hu)
    rw [show off + i * 6 + j = off + (i * 6 + j) by omega]
    exact this
theorem OwR.owo {w : World} {B : Nat} {v : Value} {l : List Ms} (h : OwM w B v l) : OwO w v l v.ownBlock := by
  have h' := h
  rcases h.2 with ⟨rfl, h0⟩ | ⟨g, cap, cur, rfl, hb, hg, hnc, hcm, hcs, htake⟩
  · have : l = [] := List.eq_nil_of_length_eq_zero h0
    subst this
    exact OwO.nil w
  · refine .inr ⟨g, 0, cap, rfl, rfl, (Array.getElem?_eq_some_iff.1 hg).1, hnc, hcm, fun j u hu => ?_, fun j hj => ?_⟩
    · have g0 := World.ownsRow.cells h' (g := g) rfl j u hu
      rw [addr_plainO, Nat.zero_add] at g0
      rw [Nat.zero_add]
      exact g0
    · rw [Nat.zero_add]
      constructor
      · rw [cell_of_row w g j cur 26 (0, 0) hg, Array.getElem?_eq_getElem (by rw [hcs]; exact hj)]
        rfl
      · unfold World.frozen?
        rw [show w.heap[(⟨g, j, none⟩ : Addr).block]? = _ from hg]
        simp
theorem OwO.drop {w : World} {b off cap : Nat} {l : List Ms} (h : OwO w (.slice (some ⟨b, off, none⟩) l.length cap) l (some b)) (n : Nat) (hn : n < l.length) : OwO w (.slice (some ⟨b, off + n * 6, none⟩) (l.length - n) (cap - n)) (l.drop n) (some b) := by
  rcases h with ⟨e, _, _⟩ | ⟨b', off', cap', e1, e2, hb, h1, h2, h3, h4⟩
  · cases e
  · cases e1
    cases e2
    refine .inr ⟨b, off + n * 6, cap - n, rfl, by rw [List.length_drop], hb, by rw [List.length_drop]; omega, by omega, fun j u hu => ?_, fun j hj => ?_⟩
    · have e : fcs Ms.cells l = fcs Ms.cells (l.take n) ++ fcs Ms.cells (l.drop n) := by rw [← fcs_append, List.take_append_drop]
      have el : (fcs Ms.cells (l.take n)).length = n * 6 := by rw [fcs_len clM, List.length_take, Nat.min_eq_left (by omega)]
      have := h3 (n * 6 + j) u (by rw [e, List.getElem?_append_right (by omega), el, show n * 6 + j - n * 6 = j by omega]; exact hu)
      rw [show off + n * 6 + j = off + (n * 6 + j) by omega]
      exact this
    · have := h4 (n * 6 + j) (by rw [Nat.sub_mul] at hj; omega)
      rw [show off + n * 6 + j = off + (n * 6 + j) by omega]
      exact this
/-- One message is appended. -/
theorem app_o (w : World) (v : Value) (l : List Ms) (g : Option Nat) (m : Ms) (x : Value) (hO : OwO w v l g) (hs : RwM w x [m]) (hl : l.length ≤ 1000000) :
    ∃ a c w' g', (Builtin.append_ #[39, 39] 39 #[v, x]).run Try.prog w = .ok (.slice a (l.length + 1) c) w' ∧ OwO w' (.slice a (l.length + 1) c) (l ++ [m]) g' ∧ Kp (fun b => g = some b) w w' ∧ (g' = g ∨ ∃ b, g' = some b ∧ w.heap.size ≤ b) := by
  obtain ⟨i0, hi, hz0, hz1, hz2⟩ := info_parts infoM
  have hsrc := hs.src clM (by omega) 39 26 Try.underlying39
  rcases hO with ⟨rfl, rfl, rfl⟩ | ⟨b, off, cap, rfl, rfl, hb, h1, h2, h3, h4⟩
  · obtain ⟨v', w', hr, ho, hg, hv⟩ := appM w w.heap.size (.slice none 0 0) x [] [m] OwR.nil hs (Nat.le_refl _) (by simp)
    rw [List.nil_append] at ho
    rcases ho.shape with ⟨_, h0⟩ | ⟨r, cap, rfl, hb, _⟩
    · simp at h0
    · refine ⟨some ⟨r, 0, none⟩, cap, w', some r, hr, ho.owo, Kp.ofGrown hg (fun k e _ => by cases e), .inr ⟨r, rfl, hb⟩⟩
  · have hcs : (fcs Ms.cells [m]).length = 6 := by rw [fcs_len clM]; rfl
    by_cases hroom : l.length + 1 ≤ cap
    · have hth : ∀ j, j < (fcs Ms.cells [m]).length → (w.cell? ⟨b, off + l.length * 6 + j, none⟩).isSome = true ∧ w.frozen? ⟨b, off + l.length * 6 + j, none⟩ = false := fun j hj => by
        have := h4 (l.length * 6 + j) (by have : (l.length + 1) * 6 ≤ cap * 6 := Nat.mul_le_mul_right 6 hroom; omega)
        rw [← Nat.add_assoc] at this
        exact this
      have hr := run_append_room_src (P := Try.prog) w 39 39 39 26 i0 Try.underlying39 hi b off l.length cap x 1 (fcs Ms.cells [m]) (by rw [hz1]; exact hsrc) hroom (by rw [hz1]; exact fun j hj => (hth j hj).1) (by rw [hz1]; exact fun j hj => (hth j hj).2)
      rw [hz1] at hr
      refine ⟨_, _, _, some b, hr, .inr ⟨b, off, cap, rfl, by rw [List.length_append]; rfl, ?_, by rw [List.length_append]; exact hroom, h2, fun j u hu => ?_, fun j hj => ?_⟩, Kp.setCells (S := fun k => some b = some k) b rfl _ _ _, .inl rfl⟩
      · exact Nat.lt_of_lt_of_le hb (Kp.setCells (S := fun k => k = b) b rfl _ _ _).size
      · rw [fcs_append] at hu
        by_cases hj : j < l.length * 6
        · rw [List.getElem?_append_left (by rw [fcs_len clM]; exact hj)] at hu
          rw [World.cell?_setCells_out b _ _ _ _ (fun _ _ => .inl (by show off + j < off + l.length * 6; omega))]
          exact h3 j u hu
        · rw [List.getElem?_append_right (by rw [fcs_len clM]; omega), fcs_len clM] at hu
          have hj2 := (List.getElem?_eq_some_iff.1 hu).1
          have := World.cell?_setCells_in b (fcs Ms.cells [m]) (off + l.length * 6) w (fun j hj => (hth j hj).1) (j - l.length * 6) hj2
          rw [show off + l.length * 6 + (j - l.length * 6) = off + j by omega] at this
          rw [this, ← hu, List.getElem?_eq_getElem hj2]
      · rw [World.frozen?_setCells]
        refine ⟨?_, (h4 j hj).2⟩
        by_cases hc : l.length * 6 ≤ j ∧ j < l.length * 6 + 6
        · have := World.cell?_setCells_in b (fcs Ms.cells [m]) (off + l.length * 6) w (fun j hj => (hth j hj).1) (j - l.length * 6) (by omega)
          rw [show off + l.length * 6 + (j - l.length * 6) = off + j by omega] at this
          rw [this]
          rfl
        · rw [World.cell?_setCells_out b _ _ _ _ (fun _ _ => by show off + j < off + l.length * 6 ∨ off + l.length * 6 + _ ≤ off + j; omega)]
          exact (h4 j hj).1
    · have hold : (Builtin.firstCells i0.size l.length (.slice (some ⟨b, off, none⟩) l.length cap)).run Try.prog w.drew = .ok (fcs Ms.cells l).toArray w.drew := run_firstCells_some w.drew i0.size l.length ⟨b, off, none⟩ l.length cap (fcs Ms.cells l) (by rw [hz1]; exact fcs_len clM l) (fun j u hu => by rw [addr_plainO]; exact h3 j u hu)
      have hr := run_append_grow_src (P := Try.prog) w 39 39 39 26 i0 _ Try.underlying39 hi hz0 (some ⟨b, off, none⟩) l.length cap (fcs Ms.cells l) hold x 1 (fcs Ms.cells [m]) (by rw [hz1]; exact hsrc) (by omega) (by omega) (growslice_fits (by omega) (by rw [hz2]; omega))
      have hge := grownCap_ge w (l.length + 1) cap 26
      have hcm := grownCap_le_maxLen w (l.length + 1) cap 26 (by unfold maxLen; omega)
      generalize grownCap w (l.length + 1) cap 26 = c' at hr hge hcm
      have hL : (fcs Ms.cells l ++ fcs Ms.cells [m]).length = (l.length + 1) * 6 := by rw [← fcs_append, fcs_len clM, List.length_append]; rfl
      obtain ⟨arr, harr⟩ : ∃ arr, (fcs Ms.cells l ++ fcs Ms.cells [m]).toArray ++ Builtin.zeroCells (Value.agg #[.int .i64 0, .int .i64 0, .int .i64 0, .int .i64 0, .int .i64 0, .string ByteArray.empty]).cells (c' - (l.length + 1)) = arr := ⟨_, rfl⟩
      have hsz : arr.size = c' * 6 := by
        rw [← harr, Array.size_append, List.size_toArray, hL, size_zeroCells]
        show _ + _ * 6 = _
        rw [← Nat.add_mul]
        congr 1
        omega
      have hat : ∀ j u, (fcs Ms.cells (l ++ [m]))[j]? = some u → arr[j]? = some u := fun j u hu => by
        rw [fcs_append] at hu
        have := (List.getElem?_eq_some_iff.1 hu).1
        rw [← harr, Array.getElem?_append_left (by rw [List.size_toArray]; exact this), List.getElem?_toArray]
        exact hu
      rw [harr] at hr
      clear harr
      have hn := heap_alloc_new w.drew (.cells arr 26)
      have hk : Kp (fun k => some b = some k) w (w.drew.alloc (.cells arr 26)) := (Kp.drew _ w).then (Kp.alloc _ _ _)
      refine ⟨_, _, _, some w.heap.size, hr, .inr ⟨w.heap.size, 0, c', rfl, by rw [List.length_append]; rfl, ?_, by rw [List.length_append]; exact hge, hcm, fun j u hu => ?_, fun j hj => ?_⟩, hk, .inr ⟨_, rfl, Nat.le_refl _⟩⟩
      · exact (Array.getElem?_eq_some_iff.1 hn).1
      · rw [Nat.zero_add, cell_of_row _ w.heap.size j _ 26 (0, 0) hn]
        exact hat j u hu
      · rw [Nat.zero_add]
        constructor
        · rw [cell_of_row _ w.heap.size j _ 26 (0, 0) hn, Array.getElem?_eq_getElem (by rw [hsz]; exact hj)]
          rfl
        · unfold World.frozen?
          rw [show (w.drew.alloc (.cells arr 26)).heap[(⟨w.heap.size, j, none⟩ : Addr).block]? = _ from hn]
          simp

end Go.Proofs.Ytamgnpmkmlhadaa
