/- How a node that came in lies in memory: its reading opened. No conditions but those that each theorem states. -/
import Derived.Test.YtponhibiomcidaaDoorRows
import Derived.Test.YtponhibiomcidaaDoorNDefs
import Derived.ProofKit
import Derived.OpenShut
import Derived.Lib.SmallJoins
import Derived.Deep.Strs
import Derived.Deep.SlicePairs
namespace Go.Proofs.YtponhibiomcidaaDoor
open Go.ChangeShapes Go.WideShapes Go.ChangeAt Go.RowKit Go.Joins Go.Deep
set_option linter.unusedVariables false

theorem bulk_posN {H : Type} (d : DataW H) : 1 ≤ Rows.uptoBulk d := by
  cases d with
  | lit l => cases l <;> simp [Rows.uptoBulk]
  | nil => simp [Rows.uptoBulk]
  | ptr d => simp [Rows.uptoBulk]
  | slice a b => simp [Rows.uptoBulk]
  | agg a => simp [Rows.uptoBulk]
  | iface a b => simp [Rows.uptoBulk]
  | map a => simp [Rows.uptoBulk]
  | held a => simp [Rows.uptoBulk]
theorem bulk_lenN {H : Type} (l : List (DataW H)) : l.length ≤ Rows.uptoBulkAll l := by
  induction l with
  | nil => simp
  | cons d l ih =>
    have := bulk_posN d
    simp only [List.length_cons, Rows.uptoBulkAll]
    omega
theorem bulk_memN {H : Type} {d : DataW H} {l : List (DataW H)} (h : d ∈ l) : Rows.uptoBulk d ≤ Rows.uptoBulkAll l := by
  induction l with
  | nil => cases h
  | cons e l ih =>
    simp only [Rows.uptoBulkAll]
    rcases List.mem_cons.1 h with rfl | h
    · omega
    · have := ih h
      omega
theorem i64_wfBN {n : Int} (h : (Lit.int .i64 n).wf = true) : -9223372036854775808 ≤ n ∧ n < 9223372036854775808 := by
  simp [Lit.wf, IntKind.min, IntKind.max, IntKind.signed, IntKind.bits] at h
  omega
set_option maxRecDepth 100000 in
/-- A slice of elements of one cell each. -/
theorem bulk_sumN {H : Type} (f : Nat → Nat) (D : Nat → DataW H) : ∀ l : List Nat, (∀ i ∈ l, f i ≤ Rows.uptoBulk (D i)) → (l.map f).sum ≤ Rows.uptoBulkAll (l.map D)
  | [], _ => by simp
  | x :: l, h => by
    have h1 := h x List.mem_cons_self
    have h2 := bulk_sumN f D l (fun i hi => h i (List.mem_cons_of_mem _ hi))
    simp only [List.map_cons, List.sum_cons, Rows.uptoBulkAll]
    omega
theorem open_cells1N {α : Type} [Inhabited α] (f : α → Value) (q : α → Prop) (wt : α → Nat) {t e : TypeId} (ht : Tryd.prog.underlying t = some (.slice e)) (hce : Tryd.prog.cellsOf e = 1) {H : Type} {enc : TypeId × Value → H} {W : World}
    (he : ∀ (fuel : Nat) (cs : List Value) (x : DataW H × List MemPlace), DataW.trod enc Tryd.prog W 0 (fun _ => true) true fuel e cs = some x → ∃ k : α, cs = [f k] ∧ q k ∧ wt k ≤ Rows.uptoBulk x.1)
    {fuel : Nat} {cs : List Value} {x : DataW H × List MemPlace} (h : DataW.trod enc Tryd.prog W 0 (fun _ => true) true fuel t cs = some x) : ∃ (v : Value) (l : List α), cs = [v] ∧ Sl f W.heap.size W v l ∧ (∀ z ∈ l, q z) ∧ (l.map wt).sum ≤ Rows.uptoBulk x.1 ∧ l.length ≤ Rows.uptoBulk x.1 := by
  rcases open_slice ht h with ⟨hcs, hx⟩ | ⟨a, len, c, m, n, D, Pl, hcs, _, hl, hm, hmm, hx, hel⟩
  · exact ⟨_, [], hcs, Sl.nil _ _ _, by simp, by simp, by simp⟩
  · simp only [if_true] at hmm
    subst hmm
    rw [hce] at hel
    obtain ⟨th, hth⟩ := choose_lt (α := α) (n := len) (p := fun i k => W.cells? 0 (a.add (i * 1)) 1 = some [f k] ∧ q k ∧ wt k ≤ Rows.uptoBulk (D i)) (fun i hi => by
      obtain ⟨cs', h1, h2⟩ := hel i (by omega)
      obtain ⟨k, e0, hq, hw⟩ := he _ _ _ h2
      subst e0
      exact ⟨k, h1, hq, hw⟩)
    obtain ⟨b, off, spot⟩ := a
    have cells : ∀ i, i < len → W.cell? (((⟨b, off, spot⟩ : Addr).add (i * 1)).add 0) = some (f (th i)) := by
      intro i hi
      rw [(World.cells?_some (hth i hi).1).2.2 0 (by omega)]
      rfl
    refine ⟨_, (List.range len).map th, hcs, ⟨some ⟨b, off, spot⟩, m, by simp, by simpa using hl, hm, ?_⟩, ?_, ?_, ?_⟩
    · intro i hi
      have hi' : i < len := by simpa using hi
      have hspot : spot = none := by simpa [Addr.add] using World.cell?_spot (cells 0 (by omega))
      subst hspot
      have plain2 : ∀ o q, (⟨b, o, none⟩ : Addr).add q = ⟨b, o + q, none⟩ := by intro o q; unfold Addr.add; split <;> simp_all
      have g := cells i hi'
      simp only [plain2, Nat.mul_one, Nat.add_zero] at g
      have e : ((List.range len).map th)[i] = th i := by simp
      exact ⟨b, off, rfl, lt_of_cell g, by rw [e]; exact g⟩
    · intro z hz
      obtain ⟨i, hi, rfl⟩ := List.mem_map.1 hz
      exact (hth i (by simpa using hi)).2.1
    · rw [hx, List.map_map]
      have := bulk_sumN (fun i => wt (th i)) D (List.range len) (fun i hi => (hth i (by simpa using hi)).2.2)
      simp only [Rows.uptoBulk]
      have e : (List.map (wt ∘ th) (List.range len)).sum = (List.map (fun i => wt (th i)) (List.range len)).sum := rfl
      omega
    · rw [hx]
      have := bulk_lenN ((List.range len).map D)
      simp only [Rows.uptoBulk, List.length_map, List.length_range] at this ⊢
      omega
theorem trod_struct4N {H : Type} {enc : TypeId × Value → H} {P : Program} {w : World} {base : Nat} {spare : Nat → Bool} {held : Bool} {t : TypeId} {f0 f1 f2 f3 : Field} {fuel : Nat} {cs : List Value} {x : DataW H × List MemPlace} (ht : P.underlying t = some (.struct #[f0, f1, f2, f3])) (h : DataW.trod enc P w base spare held fuel t cs = some x) :
    ∃ y0 y1 y2 y3 n, cs.length = P.cellsOf t ∧ DataW.trod enc P w base spare held n f0.type ((cs.drop f0.offset).take (P.cellsOf f0.type)) = some y0 ∧
      DataW.trod enc P w base spare held n f1.type ((cs.drop f1.offset).take (P.cellsOf f1.type)) = some y1 ∧ DataW.trod enc P w base spare held n f2.type ((cs.drop f2.offset).take (P.cellsOf f2.type)) = some y2 ∧
      DataW.trod enc P w base spare held n f3.type ((cs.drop f3.offset).take (P.cellsOf f3.type)) = some y3 ∧ x.1 = .agg [y0.1, y1.1, y2.1, y3.1] := by
  obtain ⟨xs, n, _, rfl, hl, hlen, hf⟩ := DataW.trod_struct ht h
  match xs, hlen with
  | [y0, y1, y2, y3], _ => exact ⟨y0, y1, y2, y3, n, hl, by simpa using hf 0 f0 rfl, by simpa using hf 1 f1 rfl, by simpa using hf 2 f2 rfl, by simpa using hf 3 f3 rfl, rfl⟩
theorem cellsPairN : Tryd.prog.cellsOf 51 = 2 := by kernel_rfl
theorem cellsNodeN : Tryd.prog.cellsOf 27 = 4 := by kernel_rfl
theorem cellsTxN : Tryd.prog.cellsOf 9 = 1 := by kernel_rfl
theorem cellsBoN : Tryd.prog.cellsOf 4 = 1 := by kernel_rfl
theorem cellsPsN : Tryd.prog.cellsOf 23 = 1 := by kernel_rfl
theorem cellsTsN : Tryd.prog.cellsOf 24 = 1 := by kernel_rfl
theorem cellsIsN : Tryd.prog.cellsOf 25 = 1 := by kernel_rfl

theorem kSize_wt : ∀ l : List ByteArray, (l.map kSize).sum ≤ 3 * (l.map (fun s => s.size + 1)).sum
  | [] => by simp
  | x :: l => by
    have h := kSize_wt l
    simp only [List.map_cons, List.sum_cons]
    rw [show kSize x = 3 + x.size from rfl]
    omega
theorem open_prs {H : Type} {enc : TypeId × Value → H} {W : World} {fuel : Nat} {cs : List Value} {x : DataW H × List MemPlace} (h : DataW.trod enc Tryd.prog W 0 (fun _ => true) true fuel 23 cs = some x) :
    ∃ (v : Value) (l : List Pr), cs = [v] ∧ Prs W.heap.size W v l ∧ (∀ p ∈ l, p.k.size ≤ maxLen ∧ p.v.size ≤ maxLen) ∧ (l.map Pr.size).sum ≤ Rows.uptoBulk x.1 ∧ l.length ≤ Rows.uptoBulk x.1 := by
  rcases open_slice_pairs Tryd.underlying23 Tryd.underlying51 cellsPairN rfl rfl cellsTxN cellsTxN h with ⟨hcs, hx⟩ | ⟨a, len, c, m, n, V0, V1, D0, D1, P0, P1, hcs, _, hl, hm, hmm, hx, hel⟩
  · exact ⟨_, [], hcs, Prs.nil _ _, by simp, by simp, by simp⟩
  · simp only [if_true] at hmm
    subst hmm
    haveI : Inhabited Pr := ⟨⟨ByteArray.empty, ByteArray.empty⟩⟩
    obtain ⟨th, hth⟩ := choose_lt (α := Pr) (n := len) (p := fun i p => W.cell? (a.add (i * 2)) = some (.string p.k) ∧ W.cell? (a.add (i * 2 + 1)) = some (.string p.v) ∧ (p.k.size ≤ maxLen ∧ p.v.size ≤ maxLen) ∧ p.size ≤ Rows.uptoBulk (.agg [D0 i, D1 i] : DataW H)) (fun i hi => by
      obtain ⟨h1, h2, h3, h4⟩ := hel i (by omega)
      obtain ⟨k, e0, f0, w0⟩ := DataW.trod_string Tryd.underlying9 h3
      obtain ⟨v, e1, f1, w1⟩ := DataW.trod_string Tryd.underlying9 h4
      simp at e0 e1
      rw [e0] at h1
      rw [e1] at h2
      refine ⟨⟨k, v⟩, h1, h2, ⟨w0, w1⟩, ?_⟩
      simp only [Prod.mk.injEq] at f0 f1
      rw [f0.1, f1.1]
      simp only [Rows.uptoBulk, Rows.uptoBulkAll, size_list]
      show 2 + k.size + v.size ≤ _
      omega)
    obtain ⟨b, off, spot⟩ := a
    refine ⟨_, (List.range len).map th, hcs, ⟨some ⟨b, off, spot⟩, m, by simp, by simpa using hl, hm, ?_⟩, ?_, ?_, ?_⟩
    · intro i hi
      have hi' : i < len := by simpa using hi
      have hspot : spot = none := by simpa [Addr.add] using World.cell?_spot (hth 0 (by omega)).1
      subst hspot
      have plain2 : ∀ o q, (⟨b, o, none⟩ : Addr).add q = ⟨b, o + q, none⟩ := by intro o q; unfold Addr.add; split <;> simp_all
      have g := hth i hi'
      simp only [plain2] at g
      have e : ((List.range len).map th)[i] = th i := by simp
      refine ⟨b, off, rfl, lt_of_cell g.1, by rw [e]; exact g.1, by rw [e]; exact g.2.1⟩
    · intro z hz
      obtain ⟨i, hi, rfl⟩ := List.mem_map.1 hz
      exact (hth i (by simpa using hi)).2.2.1
    · rw [hx, List.map_map]
      have := bulk_sumN (fun i => (th i).size) (fun i => (.agg [D0 i, D1 i] : DataW H)) (List.range len) (fun i hi => (hth i (by simpa using hi)).2.2.2)
      simp only [Rows.uptoBulk]
      have e : (List.map (Pr.size ∘ th) (List.range len)).sum = (List.map (fun i => (th i).size) (List.range len)).sum := rfl
      omega
    · rw [hx]
      have := bulk_lenN ((List.range len).map fun i => (DataW.agg [D0 i, D1 i] : DataW H))
      simp only [Rows.uptoBulk, List.length_map, List.length_range] at this ⊢
      omega
set_option maxRecDepth 100000 in
theorem open_node {H : Type} {enc : TypeId × Value → H} {W : World} {base : Nat} {v : Value} {d : DataW H} {p : List MemPlace} (hok : Value.okWide Tryd.prog W .any base 27 v) (h : DataW.Trod enc Tryd.prog W 0 (fun _ => true) true 27 v d p) :
    ∃ n : Nd, Nv W.heap.size W v n ∧ n.ps.length ≤ Rows.uptoBulk d ∧ n.ks.length ≤ Rows.uptoBulk d ∧ n.kd.length ≤ Rows.uptoBulk d ∧ n.size ≤ 4 + 3 * Rows.uptoBulk d := by
  obtain ⟨cs, rfl, hsz⟩ := okWide_struct Tryd.underlying27 hok
  obtain ⟨fuel, hf⟩ := h
  obtain ⟨y0, y1, y2, y3, n, hl, h0, h1, h2, h3, hd⟩ := trod_struct4N Tryd.underlying27 hf
  rw [cellsNodeN] at hl hsz
  obtain ⟨lf, e0, _⟩ := DataW.trod_bool Tryd.underlying4 h0
  obtain ⟨pv, ps, e1, hP, hpw, hs1, hb1⟩ := open_prs h1
  obtain ⟨kv, ks, e2, hS, hkw, hs2, hb2⟩ := open_cells1N Value.string (fun s => s.size ≤ maxLen) (fun s => s.size + 1) Tryd.underlying24 (by kernel_rfl) (fun fuel cs x hx => by
    obtain ⟨k, e0, f0, hw⟩ := DataW.trod_string Tryd.underlying9 hx
    refine ⟨k, e0, hw, ?_⟩
    rw [f0]
    simp only [Rows.uptoBulk, size_list]
    omega) h2
  obtain ⟨dv, kd, e3, hD, hdw, _, hb3⟩ := open_cells1N (Value.int .i64) (fun z => -9223372036854775808 ≤ z ∧ z < 9223372036854775808) (fun _ => 0) Tryd.underlying25 (by kernel_rfl) (fun fuel cs x hx => by
    obtain ⟨k, e0, _, hw⟩ := DataW.trod_int Tryd.underlying3 hx
    exact ⟨k, e0, i64_wfBN hw, Nat.zero_le _⟩) h3
  obtain ⟨l⟩ := cs
  match l, hsz with
  | [c0, c1, c2, c3], _ =>
    simp [Value.cells, cellsBoN, cellsPsN, cellsTsN, cellsIsN] at e0 e1 e2 e3
    subst e0 e1 e2 e3
    refine ⟨⟨lf, ps, ks, kd⟩, ⟨⟨c1, c2, c3, rfl, hP, hS, hD⟩, ⟨hpw, hkw, hdw⟩⟩, ?_, ?_, ?_, ?_⟩
    · rw [show d = _ from hd]; simp only [Rows.uptoBulk, Rows.uptoBulkAll]; omega
    · rw [show d = _ from hd]; simp only [Rows.uptoBulk, Rows.uptoBulkAll]; omega
    · rw [show d = _ from hd]; simp only [Rows.uptoBulk, Rows.uptoBulkAll]; omega
    · have h3' : (ks.map kSize).sum ≤ 3 * (ks.map (fun s => s.size + 1)).sum := kSize_wt ks
      rw [show d = _ from hd]
      simp only [Rows.uptoBulk, Rows.uptoBulkAll]
      unfold Nd.size
      dsimp only
      split <;> omega

end Go.Proofs.YtponhibiomcidaaDoor
