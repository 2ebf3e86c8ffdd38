/- The arguments of the laws of timers, opened: a script; its head; a step's kind. Conditions: those that each theorem states. -/
import Derived.Test.YtpoahegccjgnjaaRows
import Derived.Test.YtpoahegccjgnjaaJB
import Derived.ProofKit
import Derived.OpenShut
import Derived.Lib.SmallJoins
import Derived.Deep.Strs
namespace Go.Proofs.Ytpoahegccjgnjaa
open Go.ChangeShapes Go.WideShapes Go.ChangeAt Go.RowKit Go.Joins Go.Deep
set_option linter.unusedVariables false
theorem bulk_mem {H : Type} {d : DataW H} {l : List (DataW H)} (h : d ∈ l) : Rows.uptoBulk d ≤ Rows.uptoBulkAll l := by
  induction l with
  | nil => cases h
  | cons e l ih =>
    simp only [Rows.uptoBulkAll]
    rcases List.mem_cons.1 h with rfl | h
    · omega
    · have := ih h
      omega

/-- Structs of one kind in memory, among the blocks below B. -/
def Sts {α : Type} (f : α → Array Value) (n : Nat) (ok : α → World → Prop) (B : Nat) (w : World) (v : Value) (l : List α) : Prop :=
  ∃ a c, v = .slice a l.length c ∧ l.length ≤ c ∧ c ≤ maxLen ∧ ∀ i (h : i < l.length), ∃ b off, a = some ⟨b, off, none⟩ ∧ b < B ∧ w.rangeAt b (off + i * n) (f l[i]).toList ∧ ok l[i] w
theorem Sts.kept {α : Type} {f : α → Array Value} {n : Nat} {ok : α → World → Prop} {B : Nat} {w w' : World} {v : Value} {l : List α} {S : Nat → Prop} (h : Sts f n ok B w v l) (hk : Kp S w w') (hS : ∀ k, k < B → ¬ S k) (ho : ∀ x, ok x w → ok x w') : Sts f n ok B w' v l := by
  obtain ⟨a, c, rfl, h1, h2, h3⟩ := h
  refine ⟨a, c, rfl, h1, h2, fun i hi => ?_⟩
  obtain ⟨b, off, rfl, hb, c0, c1⟩ := h3 i hi
  exact ⟨b, off, rfl, hb, hk.rangeAt c0 (hS b hb), ho _ c1⟩
set_option maxRecDepth 100000 in
theorem open_sts {α : Type} [Inhabited α] (f : α → Array Value) (n : Nat) (hn : 0 < n) (hfn : ∀ x, (f x).size = n) (ok : α → World → Prop) (q : α → Nat → Prop) (hq : ∀ x i j, q x i → i ≤ j → q x j) {t e : TypeId} (ht : Try.prog.underlying t = some (.slice e)) (hce : Try.prog.cellsOf e = n) {H : Type} {enc : TypeId × Value → H} {W : World}
    (he : ∀ (fuel : Nat) (cs : List Value) (x : DataW H × List MemPlace), DataW.trod enc Try.prog W 0 (fun _ => true) true fuel e cs = some x → ∃ k : α, cs = (f k).toList ∧ ok k W ∧ q k (Rows.uptoBulk x.1))
    {a0 : Option Addr} {len cap : Nat} {d : DataW H} {p : List MemPlace} (h : DataW.Trod enc Try.prog W 0 (fun _ => true) true t (.slice a0 len cap) d p) : ∃ l : List α, Sts f n ok W.heap.size W (.slice a0 len cap) l ∧ ∀ x ∈ l, q x (Rows.uptoBulk d) := by
  obtain ⟨fuel, hf⟩ := h
  rcases open_slice ht hf with ⟨hcs, hx⟩ | ⟨a, l, c, m, k, D, Pl, hcs, _, hl, hm, hmm, hx, hel⟩
  · simp [Value.cells] at hcs
    obtain ⟨rfl, rfl, rfl⟩ := hcs
    exact ⟨[], ⟨none, 0, rfl, Nat.le_refl _, Nat.zero_le _, fun i h => absurd h (by simp)⟩, by simp⟩
  · simp [Value.cells] at hcs
    obtain ⟨rfl, rfl, rfl⟩ := hcs
    simp only [if_true] at hmm
    subst hmm
    rw [hce] at hel
    obtain ⟨th, hth⟩ := choose_lt (α := α) (n := len) (p := fun i x => W.cells? 0 (a.add (i * n)) n = some (f x).toList ∧ ok x W ∧ q x (Rows.uptoBulk (D i))) (fun i hi => by
      obtain ⟨cs', h1, h2⟩ := hel i (by omega)
      obtain ⟨x, rfl, h3, h4⟩ := he _ _ _ h2
      exact ⟨x, h1, h3, h4⟩)
    obtain ⟨b, off, spot⟩ := a
    have cells : ∀ i, i < len → ∀ j u, (f (th i)).toList[j]? = some u → W.cell? (((⟨b, off, spot⟩ : Addr).add (i * n)).add j) = some u := by
      intro i hi j u hu
      have h1 := (hth i hi).1
      have hj : j < n := by have := (List.getElem?_eq_some_iff.1 hu).1; rw [Array.length_toList, hfn] at this; exact this
      rw [(World.cells?_some h1).2.2 j hj]
      exact hu
    refine ⟨(List.range len).map th, ⟨some ⟨b, off, spot⟩, m, by simp, by simpa using hl, hm, ?_⟩, ?_⟩
    · intro i hi
      have hi' : i < len := by simpa using hi
      have hz : ∀ i, ∃ u, (f (th i)).toList[0]? = some u := fun i => ⟨_, List.getElem?_eq_getElem (by rw [Array.length_toList, hfn]; exact hn)⟩
      obtain ⟨u0, hu0⟩ := hz 0
      have hspot : spot = none := by simpa [Addr.add] using World.cell?_spot (cells 0 (by omega) 0 u0 hu0)
      subst hspot
      have plain2 : ∀ o q, (⟨b, o, none⟩ : Addr).add q = ⟨b, o + q, none⟩ := by intro o q; unfold Addr.add; split <;> simp_all
      have g := cells i hi'
      simp only [plain2] at g
      have e : ((List.range len).map th)[i] = th i := by simp
      obtain ⟨ui, hui⟩ := hz i
      exact ⟨b, off, rfl, lt_of_cell (g 0 ui hui), by rw [e]; exact g, by rw [e]; exact (hth i hi').2.1⟩
    · intro x hx'
      obtain ⟨i, hi, rfl⟩ := List.mem_map.1 hx'
      have hi' : i < len := by simpa using hi
      refine hq _ _ _ (hth i hi').2.2 ?_
      simp only [Prod.mk.injEq] at hx
      rw [hx.1]
      have := bulk_mem (List.mem_map_of_mem (f := D) hi)
      simp only [Rows.uptoBulk]
      omega
theorem Sts.take {α : Type} {f : α → Array Value} {n : Nat} {ok : α → World → Prop} {B : Nat} {w : World} {a : Option Addr} {len c : Nat} {l : List α} (h : Sts f n ok B w (.slice a len c) l) (k : Nat) (hk : k ≤ l.length) : Sts f n ok B w (.slice a k c) (l.take k) := by
  obtain ⟨a', c', h0, h1, h2, h3⟩ := h
  cases h0
  have e : (l.take k).length = k := by rw [List.length_take]; omega
  refine ⟨a, c, by rw [e], by rw [e]; omega, h2, fun i hi => ?_⟩
  rw [e] at hi
  obtain ⟨b, off, ha, hb, c0, c1⟩ := h3 i (by omega)
  have e2 : (l.take k)[i]'(by rw [e]; exact hi) = l[i]'(by omega) := List.getElem_take
  exact ⟨b, off, ha, hb, by rw [e2]; exact c0, by rw [e2]; exact c1⟩
/-- A step: its kind, a number, a time. -/
structure Tp where
  k : Int
  id : Int
  t : Int
def Tp.cells (o : Tp) : Array Value := #[.int .i64 o.k, .int .i64 o.id, .int .i64 o.t]
def Tp.ok (o : Tp) : Prop := (-9223372036854775808 ≤ o.k ∧ o.k < 9223372036854775808) ∧ (-9223372036854775808 ≤ o.id ∧ o.id < 9223372036854775808) ∧ (-9223372036854775808 ≤ o.t ∧ o.t < 9223372036854775808)
theorem cellsTp : Try.prog.cellsOf 32 = 3 := by kernel_rfl
theorem cellsTi : Try.prog.cellsOf 3 = 1 := by kernel_rfl
theorem cellsTl : Try.prog.cellsOf 2 = 1 := by kernel_rfl
theorem i64_wfT {v : Int} (h : (Lit.int .i64 v).wf = true) : -9223372036854775808 ≤ v ∧ v < 9223372036854775808 := by
  simp [Lit.wf, IntKind.min, IntKind.max, IntKind.signed, IntKind.bits] at h
  omega
theorem trod_struct3 {H : Type} {enc : TypeId × Value → H} {P : Program} {w : World} {base : Nat} {spare : Nat → Bool} {held : Bool} {t : TypeId} {f0 f1 f2 : Field} {fuel : Nat} {cs : List Value} {x : DataW H × List MemPlace} (ht : P.underlying t = some (.struct #[f0, f1, f2])) (h : DataW.trod enc P w base spare held fuel t cs = some x) :
    ∃ y0 y1 y2 n, cs.length = P.cellsOf t ∧ DataW.trod enc P w base spare held n f0.type ((cs.drop f0.offset).take (P.cellsOf f0.type)) = some y0 ∧
      DataW.trod enc P w base spare held n f1.type ((cs.drop f1.offset).take (P.cellsOf f1.type)) = some y1 ∧ DataW.trod enc P w base spare held n f2.type ((cs.drop f2.offset).take (P.cellsOf f2.type)) = some y2 := by
  obtain ⟨xs, n, _, rfl, hl, hlen, hf⟩ := DataW.trod_struct ht h
  match xs, hlen with
  | [y0, y1, y2], _ => exact ⟨y0, y1, y2, n, hl, by simpa using hf 0 f0 rfl, by simpa using hf 1 f1 rfl, by simpa using hf 2 f2 rfl⟩
set_option maxRecDepth 100000 in
theorem open_tp {H : Type} {enc : TypeId × Value → H} {W : World} {fuel : Nat} {cs : List Value} {x : DataW H × List MemPlace} (h : DataW.trod enc Try.prog W 0 (fun _ => true) true fuel 32 cs = some x) :
    ∃ o : Tp, cs = o.cells.toList ∧ o.ok := by
  obtain ⟨y0, y1, y2, n, hl, h0, h1, h2⟩ := trod_struct3 Try.underlying32 h
  rw [cellsTp] at hl
  match cs, hl with
  | [c0, c1, c2], _ =>
    obtain ⟨k, e0, _, hw0⟩ := DataW.trod_int Try.underlying3 h0
    obtain ⟨i, e1, _, hw1⟩ := DataW.trod_int Try.underlying3 h1
    obtain ⟨t, e2, _, hw2⟩ := DataW.trod_int Try.underlying2 h2
    simp [cellsTi, cellsTl] at e0 e1 e2
    subst e0 e1 e2
    exact ⟨⟨k, i, t⟩, rfl, i64_wfT hw0, i64_wfT hw1, i64_wfT hw2⟩
set_option maxRecDepth 100000 in
theorem open_tps {H : Type} {enc : TypeId × Value → H} {W : World} {a0 : Option Addr} {len cap : Nat} {d : DataW H} {p : List MemPlace} (h : DataW.Trod enc Try.prog W 0 (fun _ => true) true 22 (.slice a0 len cap) d p) :
    ∃ l : List Tp, Sts Tp.cells 3 (fun o _ => o.ok) W.heap.size W (.slice a0 len cap) l := by
  haveI : Inhabited Tp := ⟨⟨0, 0, 0⟩⟩
  obtain ⟨l, hl, _⟩ := open_sts Tp.cells 3 (by omega) (fun _ => rfl) (fun o _ => o.ok) (fun _ _ => True) (fun _ _ _ _ _ => trivial) Try.underlying22 cellsTp (fun fuel cs x hx => by
    obtain ⟨c, h1, h2⟩ := open_tp hx
    exact ⟨c, h1, h2, trivial⟩) h
  exact ⟨l, hl⟩
set_option maxRecDepth 100000 in
set_option maxHeartbeats 400000 in
theorem tearly_any (a : Option Addr) (n c : Nat) (w : World) (h1 : n ≤ c) (h2 : c ≤ maxLen) : Calls Try.prog 8 #[.slice a n c] w fun e w' => e = .returned (.slice a (min n 300) c) ∧ w' = w := by
  unfold maxLen at h2
  have e1 : (min (n : Int) 300).toNat = min n 300 := by omega
  go_enter Try.func8, Try.ntmps8
  by_cases h300 : n ≤ 300
  · have h3 : ¬ (300 : Int) < (n : Int) := by omega
    rw [show min n 300 = n by omega]
    go_wp2
    go_ret
    exact ⟨rfl, rfl⟩
  · have h3 : (300 : Int) < (n : Int) := by omega
    rw [show min n 300 = 300 by omega]
    go_wp2
    go_ret
    exact ⟨rfl, rfl⟩
/-- A step's kind. -/
def Tp.kd (o : Tp) : Nat := ((o.k % 18446744073709551616) % 3).toNat
theorem Tp.kd_lt (o : Tp) : o.kd < 3 := by unfold Tp.kd; omega
set_option maxRecDepth 100000 in
set_option maxHeartbeats 400000 in
theorem kind_any (o : Tp) (w : World) : Calls Try.prog 10 #[.agg o.cells] w fun e w' => e = .returned (.int .i64 (o.kd : Int)) ∧ Kp none' w w' := by
  unfold Tp.cells
  go_enter Try.func10, Try.ntmps10
  go_wp2
  go_ret
  refine ⟨reti ?_, Kp.alloc _ _ _⟩
  unfold Tp.kd
  have e : IntKind.u64.wrap o.k = o.k % 18446744073709551616 := by rfl
  rw [e, Int.tmod_eq_emod_of_nonneg (by omega)]
  unfold wrap64
  omega

end Go.Proofs.Ytpoahegccjgnjaa
