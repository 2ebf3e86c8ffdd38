/- How batches and crashes that came in lie in memory: their reading opened. No conditions but those that each theorem states. -/
import Derived.Test.YtmnedhlgplkfhaaGreatRows
import Derived.Test.YtmnedhlgplkfhaaGreatJP4
import Derived.ProofKit
import Derived.OpenShut
import Derived.Lib.SmallJoins
import Derived.Deep.Strs
namespace Go.Proofs.YtmnedhlgplkfhaaGreat
open Go.ChangeShapes Go.WideShapes Go.ChangeAt Go.RowKit Go.Joins Go.Deep
set_option linter.unusedVariables false

theorem bulk_pos {H : Type} (d : DataW H) : 1 ≤ Rows.uptoBulk d := by
  cases d with
  | lit l => cases l <;> simp [Rows.uptoBulk]
  | nil => simp [Rows.uptoBulk]
  | ptr d => simp [Rows.uptoBulk]
  | slice a b => simp [Rows.uptoBulk]
  | agg a => simp [Rows.uptoBulk]
  | iface a b => simp [Rows.uptoBulk]
  | map a => simp [Rows.uptoBulk]
  | held a => simp [Rows.uptoBulk]
theorem bulk_len {H : Type} (l : List (DataW H)) : l.length ≤ Rows.uptoBulkAll l := by
  induction l with
  | nil => simp
  | cons d l ih =>
    have := bulk_pos d
    simp only [List.length_cons, Rows.uptoBulkAll]
    omega
theorem bulk_mem {H : Type} {d : DataW H} {l : List (DataW H)} (h : d ∈ l) : Rows.uptoBulk d ≤ Rows.uptoBulkAll l := by
  induction l with
  | nil => cases h
  | cons e l ih =>
    simp only [Rows.uptoBulkAll]
    rcases List.mem_cons.1 h with rfl | h
    · omega
    · have := ih h
      omega
theorem i64_wfB {n : Int} (h : (Lit.int .i64 n).wf = true) : -9223372036854775808 ≤ n ∧ n < 9223372036854775808 := by
  simp [Lit.wf, IntKind.min, IntKind.max, IntKind.signed, IntKind.bits] at h
  omega
set_option maxRecDepth 100000 in
/-- A slice of elements of one cell each. -/
theorem open_cells1 {α : Type} [Inhabited α] (f : α → Value) (q : α → Prop) {t e : TypeId} (ht : Tryz.prog.underlying t = some (.slice e)) (hce : Tryz.prog.cellsOf e = 1) {H : Type} {enc : TypeId × Value → H} {W : World}
    (he : ∀ (fuel : Nat) (cs : List Value) (x : DataW H × List MemPlace), DataW.trod enc Tryz.prog W 0 (fun _ => true) true fuel e cs = some x → ∃ k : α, cs = [f k] ∧ q k)
    {fuel : Nat} {cs : List Value} {x : DataW H × List MemPlace} (h : DataW.trod enc Tryz.prog W 0 (fun _ => true) true fuel t cs = some x) : ∃ (v : Value) (l : List α), cs = [v] ∧ Sl f W.heap.size W v l ∧ (∀ z ∈ l, q z) ∧ l.length ≤ Rows.uptoBulk x.1 := by
  rcases open_slice ht h with ⟨hcs, hx⟩ | ⟨a, len, c, m, n, D, Pl, hcs, _, hl, hm, hmm, hx, hel⟩
  · exact ⟨_, [], hcs, Sl.nil _ _ _, by simp, by simp⟩
  · simp only [if_true] at hmm
    subst hmm
    rw [hce] at hel
    obtain ⟨th, hth⟩ := choose_lt (α := α) (n := len) (p := fun i k => W.cells? 0 (a.add (i * 1)) 1 = some [f k] ∧ q k) (fun i hi => by
      obtain ⟨cs', h1, h2⟩ := hel i (by omega)
      obtain ⟨k, e0, hq⟩ := he _ _ _ h2
      subst e0
      exact ⟨k, h1, hq⟩)
    obtain ⟨b, off, spot⟩ := a
    have cells : ∀ i, i < len → W.cell? (((⟨b, off, spot⟩ : Addr).add (i * 1)).add 0) = some (f (th i)) := by
      intro i hi
      rw [(World.cells?_some (hth i hi).1).2.2 0 (by omega)]
      rfl
    refine ⟨_, (List.range len).map th, hcs, ⟨some ⟨b, off, spot⟩, m, by simp, by simpa using hl, hm, ?_⟩, ?_, ?_⟩
    · intro i hi
      have hi' : i < len := by simpa using hi
      have hspot : spot = none := by simpa [Addr.add] using World.cell?_spot (cells 0 (by omega))
      subst hspot
      have plain2 : ∀ o q, (⟨b, o, none⟩ : Addr).add q = ⟨b, o + q, none⟩ := by intro o q; unfold Addr.add; split <;> simp_all
      have g := cells i hi'
      simp only [plain2, Nat.mul_one, Nat.add_zero] at g
      have e : ((List.range len).map th)[i] = th i := by simp
      exact ⟨b, off, rfl, lt_of_cell g, by rw [e]; exact g⟩
    · intro z hz
      obtain ⟨i, hi, rfl⟩ := List.mem_map.1 hz
      exact (hth i (by simpa using hi)).2
    · rw [hx]
      have := bulk_len ((List.range len).map D)
      simp only [Rows.uptoBulk, List.length_map, List.length_range] at this ⊢
      omega
theorem cellsIs : Tryz.prog.cellsOf 41 = 1 := by kernel_rfl
theorem cellsUs : Tryz.prog.cellsOf 98 = 1 := by kernel_rfl
theorem cellsIb : Tryz.prog.cellsOf 3 = 1 := by kernel_rfl
theorem trod_struct2 {H : Type} {enc : TypeId × Value → H} {P : Program} {w : World} {base : Nat} {spare : Nat → Bool} {held : Bool} {t : TypeId} {f0 f1 : Field} {fuel : Nat} {cs : List Value} {x : DataW H × List MemPlace} (ht : P.underlying t = some (.struct #[f0, f1])) (h : DataW.trod enc P w base spare held fuel t cs = some x) :
    ∃ y0 y1 n, cs.length = P.cellsOf t ∧ DataW.trod enc P w base spare held n f0.type ((cs.drop f0.offset).take (P.cellsOf f0.type)) = some y0 ∧
      DataW.trod enc P w base spare held n f1.type ((cs.drop f1.offset).take (P.cellsOf f1.type)) = some y1 ∧ x.1 = .agg [y0.1, y1.1] := by
  obtain ⟨xs, n, _, rfl, hl, hlen, hf⟩ := DataW.trod_struct ht h
  match xs, hlen with
  | [y0, y1], _ => exact ⟨y0, y1, n, hl, by simpa using hf 0 f0 rfl, by simpa using hf 1 f1 rfl, rfl⟩
theorem trod_struct4 {H : Type} {enc : TypeId × Value → H} {P : Program} {w : World} {base : Nat} {spare : Nat → Bool} {held : Bool} {t : TypeId} {f0 f1 f2 f3 : Field} {fuel : Nat} {cs : List Value} {x : DataW H × List MemPlace} (ht : P.underlying t = some (.struct #[f0, f1, f2, f3])) (h : DataW.trod enc P w base spare held fuel t cs = some x) :
    ∃ y0 y1 y2 y3 n, cs.length = P.cellsOf t ∧ DataW.trod enc P w base spare held n f0.type ((cs.drop f0.offset).take (P.cellsOf f0.type)) = some y0 ∧
      DataW.trod enc P w base spare held n f1.type ((cs.drop f1.offset).take (P.cellsOf f1.type)) = some y1 ∧ DataW.trod enc P w base spare held n f2.type ((cs.drop f2.offset).take (P.cellsOf f2.type)) = some y2 ∧
      DataW.trod enc P w base spare held n f3.type ((cs.drop f3.offset).take (P.cellsOf f3.type)) = some y3 := by
  obtain ⟨xs, n, _, rfl, hl, hlen, hf⟩ := DataW.trod_struct ht h
  match xs, hlen with
  | [y0, y1, y2, y3], _ => exact ⟨y0, y1, y2, y3, n, hl, by simpa using hf 0 f0 rfl, by simpa using hf 1 f1 rfl, by simpa using hf 2 f2 rfl, by simpa using hf 3 f3 rfl⟩
/-- A crash: where it stands still, which is torn, where it is cut, what is kept. -/
structure Cr where
  at' : Int
  torn : Int
  cut : Int
  kv : Value
  l : List Bool
def Cr.cells (c : Cr) : Array Value := #[.int .i64 c.at', .int .i64 c.torn, .int .i64 c.cut, c.kv]
def Cr.ok (c : Cr) (B : Nat) (w : World) : Prop := Sl Value.bool B w c.kv c.l
theorem Cr.ok.kept {c : Cr} {B : Nat} {w w' : World} {S : Nat → Prop} (h : c.ok B w) (hk : Kp S w w') (hS : ∀ k, k < B → ¬ S k) : c.ok B w' := Sl.kept h hk hS
/-- Structs of one kind in memory, among the blocks below B. -/
def Sts {α : Type} (f : α → Array Value) (n : Nat) (ok : α → World → Prop) (B : Nat) (w : World) (v : Value) (l : List α) : Prop :=
  ∃ a c, v = .slice a l.length c ∧ l.length ≤ c ∧ c ≤ maxLen ∧ ∀ i (h : i < l.length), ∃ b off, a = some ⟨b, off, none⟩ ∧ b < B ∧ w.rangeAt b (off + i * n) (f l[i]).toList ∧ ok l[i] w
theorem Sts.kept {α : Type} {f : α → Array Value} {n : Nat} {ok : α → World → Prop} {B : Nat} {w w' : World} {v : Value} {l : List α} {S : Nat → Prop} (h : Sts f n ok B w v l) (hk : Kp S w w') (hS : ∀ k, k < B → ¬ S k) (ho : ∀ x, ok x w → ok x w') : Sts f n ok B w' v l := by
  obtain ⟨a, c, rfl, h1, h2, h3⟩ := h
  refine ⟨a, c, rfl, h1, h2, fun i hi => ?_⟩
  obtain ⟨b, off, rfl, hb, c0, c1⟩ := h3 i hi
  exact ⟨b, off, rfl, hb, hk.rangeAt c0 (hS b hb), ho _ c1⟩
set_option maxRecDepth 100000 in
theorem open_sts {α : Type} [Inhabited α] (f : α → Array Value) (n : Nat) (hn : 0 < n) (hfn : ∀ x, (f x).size = n) (ok : α → World → Prop) (q : α → Nat → Prop) (hq : ∀ x i j, q x i → i ≤ j → q x j) {t e : TypeId} (ht : Tryz.prog.underlying t = some (.slice e)) (hce : Tryz.prog.cellsOf e = n) {H : Type} {enc : TypeId × Value → H} {W : World}
    (he : ∀ (fuel : Nat) (cs : List Value) (x : DataW H × List MemPlace), DataW.trod enc Tryz.prog W 0 (fun _ => true) true fuel e cs = some x → ∃ k : α, cs = (f k).toList ∧ ok k W ∧ q k (Rows.uptoBulk x.1))
    {a0 : Option Addr} {len cap : Nat} {d : DataW H} {p : List MemPlace} (h : DataW.Trod enc Tryz.prog W 0 (fun _ => true) true t (.slice a0 len cap) d p) : ∃ l : List α, Sts f n ok W.heap.size W (.slice a0 len cap) l ∧ ∀ x ∈ l, q x (Rows.uptoBulk d) := by
  obtain ⟨fuel, hf⟩ := h
  rcases open_slice ht hf with ⟨hcs, hx⟩ | ⟨a, l, c, m, k, D, Pl, hcs, _, hl, hm, hmm, hx, hel⟩
  · simp [Value.cells] at hcs
    obtain ⟨rfl, rfl, rfl⟩ := hcs
    exact ⟨[], ⟨none, 0, rfl, Nat.le_refl _, Nat.zero_le _, fun i h => absurd h (by simp)⟩, by simp⟩
  · simp [Value.cells] at hcs
    obtain ⟨rfl, rfl, rfl⟩ := hcs
    simp only [if_true] at hmm
    subst hmm
    rw [hce] at hel
    obtain ⟨th, hth⟩ := choose_lt (α := α) (n := len) (p := fun i x => W.cells? 0 (a.add (i * n)) n = some (f x).toList ∧ ok x W ∧ q x (Rows.uptoBulk (D i))) (fun i hi => by
      obtain ⟨cs', h1, h2⟩ := hel i (by omega)
      obtain ⟨x, rfl, h3, h4⟩ := he _ _ _ h2
      exact ⟨x, h1, h3, h4⟩)
    obtain ⟨b, off, spot⟩ := a
    have cells : ∀ i, i < len → ∀ j u, (f (th i)).toList[j]? = some u → W.cell? (((⟨b, off, spot⟩ : Addr).add (i * n)).add j) = some u := by
      intro i hi j u hu
      have h1 := (hth i hi).1
      have hj : j < n := by have := (List.getElem?_eq_some_iff.1 hu).1; rw [Array.length_toList, hfn] at this; exact this
      rw [(World.cells?_some h1).2.2 j hj]
      exact hu
    refine ⟨(List.range len).map th, ⟨some ⟨b, off, spot⟩, m, by simp, by simpa using hl, hm, ?_⟩, ?_⟩
    · intro i hi
      have hi' : i < len := by simpa using hi
      have hz : ∀ i, ∃ u, (f (th i)).toList[0]? = some u := fun i => ⟨_, List.getElem?_eq_getElem (by rw [Array.length_toList, hfn]; exact hn)⟩
      obtain ⟨u0, hu0⟩ := hz 0
      have hspot : spot = none := by simpa [Addr.add] using World.cell?_spot (cells 0 (by omega) 0 u0 hu0)
      subst hspot
      have plain2 : ∀ o q, (⟨b, o, none⟩ : Addr).add q = ⟨b, o + q, none⟩ := by intro o q; unfold Addr.add; split <;> simp_all
      have g := cells i hi'
      simp only [plain2] at g
      have e : ((List.range len).map th)[i] = th i := by simp
      obtain ⟨ui, hui⟩ := hz i
      exact ⟨b, off, rfl, lt_of_cell (g 0 ui hui), by rw [e]; exact g, by rw [e]; exact (hth i hi').2.1⟩
    · intro x hx'
      obtain ⟨i, hi, rfl⟩ := List.mem_map.1 hx'
      have hi' : i < len := by simpa using hi
      refine hq _ _ _ (hth i hi').2.2 ?_
      simp only [Prod.mk.injEq] at hx
      rw [hx.1]
      have := bulk_mem (List.mem_map_of_mem (f := D) hi)
      simp only [Rows.uptoBulk]
      omega
theorem Sts.take {α : Type} {f : α → Array Value} {n : Nat} {ok : α → World → Prop} {B : Nat} {w : World} {a : Option Addr} {len c : Nat} {l : List α} (h : Sts f n ok B w (.slice a len c) l) (k : Nat) (hk : k ≤ l.length) : Sts f n ok B w (.slice a k c) (l.take k) := by
  obtain ⟨a', c', h0, h1, h2, h3⟩ := h
  cases h0
  have e : (l.take k).length = k := by rw [List.length_take]; omega
  refine ⟨a, c, by rw [e], by rw [e]; omega, h2, fun i hi => ?_⟩
  rw [e] at hi
  obtain ⟨b, off, ha, hb, c0, c1⟩ := h3 i (by omega)
  have e2 : (l.take k)[i]'(by rw [e]; exact hi) = l[i]'(by omega) := List.getElem_take
  exact ⟨b, off, ha, hb, by rw [e2]; exact c0, by rw [e2]; exact c1⟩

end Go.Proofs.YtmnedhlgplkfhaaGreat
