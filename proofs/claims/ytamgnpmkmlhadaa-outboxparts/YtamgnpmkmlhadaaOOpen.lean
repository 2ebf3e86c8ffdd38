/- The arguments of the laws of outboxes, opened: a message; a script; its head; a step's kind. Conditions: those that each theorem states. -/
import Derived.Test.YtamgnpmkmlhadaaRows
import Derived.Test.YtamgnpmkmlhadaaEOp
import Derived.Test.YtamgnpmkmlhadaaODefs
import Derived.ProofKit
import Derived.OpenShut
import Derived.Lib.SmallJoins
import Derived.Deep.Strs
namespace Go.Proofs.Ytamgnpmkmlhadaa
open Go.ChangeShapes Go.WideShapes Go.ChangeAt Go.RowKit Go.Joins Go.Deep
set_option linter.unusedVariables false
theorem bulk_mem {H : Type} {d : DataW H} {l : List (DataW H)} (h : d ∈ l) : Rows.uptoBulk d ≤ Rows.uptoBulkAll l := by
  induction l with
  | nil => cases h
  | cons e l ih =>
    simp only [Rows.uptoBulkAll]
    rcases List.mem_cons.1 h with rfl | h
    · omega
    · have := ih h
      omega

/-- Structs of one kind in memory, among the blocks below B. -/
def Sts {α : Type} (f : α → Array Value) (n : Nat) (ok : α → World → Prop) (B : Nat) (w : World) (v : Value) (l : List α) : Prop :=
  ∃ a c, v = .slice a l.length c ∧ l.length ≤ c ∧ c ≤ maxLen ∧ ∀ i (h : i < l.length), ∃ b off, a = some ⟨b, off, none⟩ ∧ b < B ∧ w.rangeAt b (off + i * n) (f l[i]).toList ∧ ok l[i] w
theorem Sts.kept {α : Type} {f : α → Array Value} {n : Nat} {ok : α → World → Prop} {B : Nat} {w w' : World} {v : Value} {l : List α} {S : Nat → Prop} (h : Sts f n ok B w v l) (hk : Kp S w w') (hS : ∀ k, k < B → ¬ S k) (ho : ∀ x, ok x w → ok x w') : Sts f n ok B w' v l := by
  obtain ⟨a, c, rfl, h1, h2, h3⟩ := h
  refine ⟨a, c, rfl, h1, h2, fun i hi => ?_⟩
  obtain ⟨b, off, rfl, hb, c0, c1⟩ := h3 i hi
  exact ⟨b, off, rfl, hb, hk.rangeAt c0 (hS b hb), ho _ c1⟩
set_option maxRecDepth 100000 in
theorem open_sts {α : Type} [Inhabited α] (f : α → Array Value) (n : Nat) (hn : 0 < n) (hfn : ∀ x, (f x).size = n) (ok : α → World → Prop) (q : α → Nat → Prop) (hq : ∀ x i j, q x i → i ≤ j → q x j) {t e : TypeId} (ht : Try.prog.underlying t = some (.slice e)) (hce : Try.prog.cellsOf e = n) {H : Type} {enc : TypeId × Value → H} {W : World}
    (he : ∀ (fuel : Nat) (cs : List Value) (x : DataW H × List MemPlace), DataW.trod enc Try.prog W 0 (fun _ => true) true fuel e cs = some x → ∃ k : α, cs = (f k).toList ∧ ok k W ∧ q k (Rows.uptoBulk x.1))
    {a0 : Option Addr} {len cap : Nat} {d : DataW H} {p : List MemPlace} (h : DataW.Trod enc Try.prog W 0 (fun _ => true) true t (.slice a0 len cap) d p) : ∃ l : List α, Sts f n ok W.heap.size W (.slice a0 len cap) l ∧ ∀ x ∈ l, q x (Rows.uptoBulk d) := by
  obtain ⟨fuel, hf⟩ := h
  rcases open_slice ht hf with ⟨hcs, hx⟩ | ⟨a, l, c, m, k, D, Pl, hcs, _, hl, hm, hmm, hx, hel⟩
  · simp [Value.cells] at hcs
    obtain ⟨rfl, rfl, rfl⟩ := hcs
    exact ⟨[], ⟨none, 0, rfl, Nat.le_refl _, Nat.zero_le _, fun i h => absurd h (by simp)⟩, by simp⟩
  · simp [Value.cells] at hcs
    obtain ⟨rfl, rfl, rfl⟩ := hcs
    simp only [if_true] at hmm
    subst hmm
    rw [hce] at hel
    obtain ⟨th, hth⟩ := choose_lt (α := α) (n := len) (p := fun i x => W.cells? 0 (a.add (i * n)) n = some (f x).toList ∧ ok x W ∧ q x (Rows.uptoBulk (D i))) (fun i hi => by
      obtain ⟨cs', h1, h2⟩ := hel i (by omega)
      obtain ⟨x, rfl, h3, h4⟩ := he _ _ _ h2
      exact ⟨x, h1, h3, h4⟩)
    obtain ⟨b, off, spot⟩ := a
    have cells : ∀ i, i < len → ∀ j u, (f (th i)).toList[j]? = some u → W.cell? (((⟨b, off, spot⟩ : Addr).add (i * n)).add j) = some u := by
      intro i hi j u hu
      have h1 := (hth i hi).1
      have hj : j < n := by have := (List.getElem?_eq_some_iff.1 hu).1; rw [Array.length_toList, hfn] at this; exact this
      rw [(World.cells?_some h1).2.2 j hj]
      exact hu
    refine ⟨(List.range len).map th, ⟨some ⟨b, off, spot⟩, m, by simp, by simpa using hl, hm, ?_⟩, ?_⟩
    · intro i hi
      have hi' : i < len := by simpa using hi
      have hz : ∀ i, ∃ u, (f (th i)).toList[0]? = some u := fun i => ⟨_, List.getElem?_eq_getElem (by rw [Array.length_toList, hfn]; exact hn)⟩
      obtain ⟨u0, hu0⟩ := hz 0
      have hspot : spot = none := by simpa [Addr.add] using World.cell?_spot (cells 0 (by omega) 0 u0 hu0)
      subst hspot
      have plain2 : ∀ o q, (⟨b, o, none⟩ : Addr).add q = ⟨b, o + q, none⟩ := by intro o q; unfold Addr.add; split <;> simp_all
      have g := cells i hi'
      simp only [plain2] at g
      have e : ((List.range len).map th)[i] = th i := by simp
      obtain ⟨ui, hui⟩ := hz i
      exact ⟨b, off, rfl, lt_of_cell (g 0 ui hui), by rw [e]; exact g, by rw [e]; exact (hth i hi').2.1⟩
    · intro x hx'
      obtain ⟨i, hi, rfl⟩ := List.mem_map.1 hx'
      have hi' : i < len := by simpa using hi
      refine hq _ _ _ (hth i hi').2.2 ?_
      simp only [Prod.mk.injEq] at hx
      rw [hx.1]
      have := bulk_mem (List.mem_map_of_mem (f := D) hi)
      simp only [Rows.uptoBulk]
      omega
theorem Sts.take {α : Type} {f : α → Array Value} {n : Nat} {ok : α → World → Prop} {B : Nat} {w : World} {a : Option Addr} {len c : Nat} {l : List α} (h : Sts f n ok B w (.slice a len c) l) (k : Nat) (hk : k ≤ l.length) : Sts f n ok B w (.slice a k c) (l.take k) := by
  obtain ⟨a', c', h0, h1, h2, h3⟩ := h
  cases h0
  have e : (l.take k).length = k := by rw [List.length_take]; omega
  refine ⟨a, c, by rw [e], by rw [e]; omega, h2, fun i hi => ?_⟩
  rw [e] at hi
  obtain ⟨b, off, ha, hb, c0, c1⟩ := h3 i (by omega)
  have e2 : (l.take k)[i]'(by rw [e]; exact hi) = l[i]'(by omega) := List.getElem_take
  exact ⟨b, off, ha, hb, by rw [e2]; exact c0, by rw [e2]; exact c1⟩

theorem cellsMs : Try.prog.cellsOf 26 = 6 := by kernel_rfl
theorem cellsOo : Try.prog.cellsOf 43 = 9 := by kernel_rfl
set_option maxRecDepth 100000 in
theorem open_ms {H : Type} {enc : TypeId × Value → H} {W : World} {fuel : Nat} {cs : List Value} {x : DataW H × List MemPlace} (h : DataW.trod enc Try.prog W 0 (fun _ => true) true fuel 26 cs = some x) :
    ∃ m : Ms, cs = m.cells ∧ m.wf := by
  obtain ⟨xs, n, _, _, hl, hlen, hfl⟩ := DataW.trod_struct Try.underlying26 h
  rw [cellsMs] at hl
  match xs, hlen with
  | [y0, y1, y2, y3], _ =>
    have h0 := hfl 0 _ rfl
    have h1 := hfl 1 _ rfl
    have h2 := hfl 2 _ rfl
    have h3 := hfl 3 _ rfl
    match cs, hl with
    | [c0, c1, c2, c3, c4, c5], _ =>
      obtain ⟨a0, e0, _, w0⟩ := DataW.trod_int Try.underlying3 (by simpa using h0)
      obtain ⟨a1, e1, _, w1⟩ := DataW.trod_int Try.underlying3 (by simpa using h1)
      obtain ⟨a2, e2, _, w2⟩ := DataW.trod_int Try.underlying3 (by simpa using h2)
      obtain ⟨v, e3, _, w3⟩ := open_val (enc := enc) (W := W) (base := 0) (fuel := n) (spare := fun _ => true) (held := true) (cs := [c3, c4, c5]) (x := y3) (by simpa [cellsV, Value.cells] using h3)
      simp [cellsI9] at e0 e1 e2
      simp only [List.cons.injEq, and_true] at e3
      obtain ⟨e6, e7, e8⟩ := e3
      subst e0 e1 e2 e6 e7 e8
      exact ⟨⟨a0, a1, a2, v⟩, rfl, irOf9 w0, irOf9 w1, irOf9 w2, w3⟩
theorem open_msv {H : Type} {enc : TypeId × Value → H} {W : World} {base : Nat} {v : Value} {d : DataW H} {p : List MemPlace} (hok : Value.okWide Try.prog W .any base 26 v) (h : DataW.Trod enc Try.prog W 0 (fun _ => true) true 26 v d p) :
    ∃ m : Ms, v = m.val ∧ m.wf := by
  obtain ⟨cs, rfl, hsz⟩ := okWide_struct Try.underlying26 hok
  obtain ⟨fuel, hf⟩ := h
  obtain ⟨m, e, hm⟩ := open_ms hf
  obtain ⟨l⟩ := cs
  simp [Value.cells] at e
  subst e
  exact ⟨m, rfl, hm⟩
/-- A step. -/
structure Oo where
  kd : Int
  n : Int
  k : Int
  m : Ms
def Oo.cells (o : Oo) : Array Value := #[.int .i64 o.kd, .int .i64 o.n, .int .i64 o.k, .int .i64 o.m.q, .int .i64 o.m.f, .int .i64 o.m.t, .int .i64 o.m.v.k, .int .i64 o.m.v.n, .string o.m.v.s]
def Oo.ok (o : Oo) : Prop := ir o.kd ∧ ir o.n ∧ ir o.k ∧ o.m.wf
set_option maxRecDepth 100000 in
theorem open_oo {H : Type} {enc : TypeId × Value → H} {W : World} {fuel : Nat} {cs : List Value} {x : DataW H × List MemPlace} (h : DataW.trod enc Try.prog W 0 (fun _ => true) true fuel 43 cs = some x) :
    ∃ o : Oo, cs = o.cells.toList ∧ o.ok := by
  obtain ⟨xs, n, _, _, hl, hlen, hfl⟩ := DataW.trod_struct Try.underlying43 h
  rw [cellsOo] at hl
  match xs, hlen with
  | [y0, y1, y2, y3], _ =>
    have h0 := hfl 0 _ rfl
    have h1 := hfl 1 _ rfl
    have h2 := hfl 2 _ rfl
    have h3 := hfl 3 _ rfl
    match cs, hl with
    | [c0, c1, c2, c3, c4, c5, c6, c7, c8], _ =>
      obtain ⟨a0, e0, _, w0⟩ := DataW.trod_int Try.underlying3 (by simpa using h0)
      obtain ⟨a1, e1, _, w1⟩ := DataW.trod_int Try.underlying3 (by simpa using h1)
      obtain ⟨a2, e2, _, w2⟩ := DataW.trod_int Try.underlying3 (by simpa using h2)
      obtain ⟨m, e3, w3⟩ := open_ms (enc := enc) (W := W) (fuel := n) (cs := [c3, c4, c5, c6, c7, c8]) (x := y3) (by simpa [cellsMs, Value.cells] using h3)
      simp [cellsI9] at e0 e1 e2
      simp only [Ms.cells, List.cons.injEq, and_true] at e3
      obtain ⟨e4, e5, e6, e7, e8, e9⟩ := e3
      subst e0 e1 e2 e4 e5 e6 e7 e8 e9
      exact ⟨⟨a0, a1, a2, m⟩, rfl, irOf9 w0, irOf9 w1, irOf9 w2, w3⟩
theorem open_oov {H : Type} {enc : TypeId × Value → H} {W : World} {base : Nat} {v : Value} {d : DataW H} {p : List MemPlace} (hok : Value.okWide Try.prog W .any base 43 v) (h : DataW.Trod enc Try.prog W 0 (fun _ => true) true 43 v d p) :
    ∃ o : Oo, v = .agg o.cells ∧ o.ok := by
  obtain ⟨cs, rfl, hsz⟩ := okWide_struct Try.underlying43 hok
  obtain ⟨fuel, hf⟩ := h
  obtain ⟨m, e, hm⟩ := open_oo hf
  obtain ⟨l⟩ := cs
  simp [Value.cells] at e
  subst e
  exact ⟨m, rfl, hm⟩
set_option maxRecDepth 100000 in
theorem open_oos {H : Type} {enc : TypeId × Value → H} {W : World} {a0 : Option Addr} {len cap : Nat} {d : DataW H} {p : List MemPlace} (h : DataW.Trod enc Try.prog W 0 (fun _ => true) true 34 (.slice a0 len cap) d p) :
    ∃ l : List Oo, Sts Oo.cells 9 (fun o _ => o.ok) W.heap.size W (.slice a0 len cap) l := by
  haveI : Inhabited Oo := ⟨⟨0, 0, 0, zM⟩⟩
  obtain ⟨l, hl, _⟩ := open_sts Oo.cells 9 (by omega) (fun _ => rfl) (fun o _ => o.ok) (fun _ _ => True) (fun _ _ _ _ _ => trivial) Try.underlying34 cellsOo (fun fuel cs x hx => by
    obtain ⟨c, h1, h2⟩ := open_oo hx
    exact ⟨c, h1, h2, trivial⟩) h
  exact ⟨l, hl⟩
set_option maxRecDepth 100000 in
set_option maxHeartbeats 400000 in
theorem oearly_any (a : Option Addr) (n c : Nat) (w : World) (h1 : n ≤ c) (h2 : c ≤ maxLen) : Calls Try.prog 13 #[.slice a n c] w fun e w' => e = .returned (.slice a (min n 300) c) ∧ w' = w := by
  unfold maxLen at h2
  have e1 : (min (n : Int) 300).toNat = min n 300 := by omega
  go_enter Try.func13, Try.ntmps13
  by_cases h300 : n ≤ 300
  · have h3 : ¬ (300 : Int) < (n : Int) := by omega
    rw [show min n 300 = n by omega]
    go_wp2
    go_ret
    exact ⟨rfl, rfl⟩
  · have h3 : (300 : Int) < (n : Int) := by omega
    rw [show min n 300 = 300 by omega]
    go_wp2
    go_ret
    exact ⟨rfl, rfl⟩
/-- A step's kind. -/
def Oo.knd (o : Oo) : Nat := ((o.kd % 18446744073709551616) % 3).toNat
theorem Oo.knd_lt (o : Oo) : o.knd < 3 := by unfold Oo.knd; omega
set_option maxRecDepth 100000 in
set_option maxHeartbeats 400000 in
theorem okind_any (o : Oo) (w : World) : Calls Try.prog 15 #[.agg o.cells] w fun e w' => e = .returned (.int .i64 (o.knd : Int)) ∧ Kp none' w w' := by
  unfold Oo.cells
  go_enter Try.func15, Try.ntmps15
  go_wp2
  go_ret
  refine ⟨reti ?_, Kp.alloc _ _ _⟩
  unfold Oo.knd
  have e : IntKind.u64.wrap o.kd = o.kd % 18446744073709551616 := by rfl
  rw [e, Int.tmod_eq_emod_of_nonneg (by omega)]
  unfold wrap64
  omega
/-- A script's steps lie in memory, in whatever world the law makes. -/
def Scr (w : World) (a : Option Addr) (L : List Oo) : Prop := ∀ i (h : i < L.length), ∃ b off, a = some ⟨b, off, none⟩ ∧ b < w.heap.size ∧ w.rangeAt b (off + i * 9) L[i].cells.toList ∧ L[i].ok
theorem scr_of {w : World} {a : Option Addr} {len cap : Nat} {L : List Oo} (hB : Sts Oo.cells 9 (fun o _ => o.ok) w.heap.size w (.slice a len cap) L) :
    ∃ L2 : List Oo, L2.length ≤ 300 ∧ min len 300 = L2.length ∧ L2.length ≤ cap ∧ len ≤ cap ∧ cap ≤ maxLen ∧ Scr w a L2 := by
  obtain ⟨hlen, hcap, hcm⟩ : len = L.length ∧ L.length ≤ cap ∧ cap ≤ maxLen := by
    obtain ⟨a', c', h0, h1, h2, _⟩ := hB
    cases h0
    exact ⟨rfl, h1, h2⟩
  have hT := hB.take (min len 300) (by omega)
  have hTn : (L.take (min len 300)).length = min len 300 := by rw [List.length_take]; omega
  refine ⟨L.take (min len 300), by omega, hTn.symm, by omega, by omega, hcm, fun i hi => ?_⟩
  obtain ⟨a', c', h0, _, _, hcs⟩ := hT
  have ea : a = a' := by injection h0
  subst ea
  exact hcs i hi

end Go.Proofs.Ytamgnpmkmlhadaa
