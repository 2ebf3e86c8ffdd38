/- A node's block: stored whole, loaded whole, as a result. Conditions: those that each theorem states. -/
import Derived.Test.YtponhibiomcidaaDoorNDefs
namespace Go.Proofs.YtponhibiomcidaaDoor
open Go Go.RowKit
set_option linter.unusedVariables false

theorem Nb.fz {w : World} {b : Nat} {l : Bool} {pv kv dv : Value} (h : Nb w b l pv kv dv) (j : Nat) : w.frozen? ⟨b, j, none⟩ = false := by
  unfold World.frozen?
  rw [show w.heap[(⟨b, j, none⟩ : Addr).block]? = _ from h]
  simp
theorem Nb.set0 {w : World} {b : Nat} {l : Bool} {pv kv dv : Value} (h : Nb w b l pv kv dv) (x : Bool) : Nb (w.setCell ⟨b, 0, none⟩ (.bool x)) b x pv kv dv := by
  unfold Nb
  rw [heap_setCell_same w b 0 _ 27 _ h]
  rfl
theorem Nb.set1 {w : World} {b : Nat} {l : Bool} {pv kv dv : Value} (h : Nb w b l pv kv dv) (x : Value) : Nb (w.setCell ⟨b, 1, none⟩ x) b l x kv dv := by
  unfold Nb
  rw [heap_setCell_same w b 1 _ 27 _ h]
  rfl
theorem Nb.set2 {w : World} {b : Nat} {l : Bool} {pv kv dv : Value} (h : Nb w b l pv kv dv) (x : Value) : Nb (w.setCell ⟨b, 2, none⟩ x) b l pv x dv := by
  unfold Nb
  rw [heap_setCell_same w b 2 _ 27 _ h]
  rfl
theorem Nb.set3 {w : World} {b : Nat} {l : Bool} {pv kv dv : Value} (h : Nb w b l pv kv dv) (x : Value) : Nb (w.setCell ⟨b, 3, none⟩ x) b l pv kv x := by
  unfold Nb
  rw [heap_setCell_same w b 3 _ 27 _ h]
  rfl
theorem Nb.put {w : World} {b : Nat} {l : Bool} {pv kv dv : Value} (h : Nb w b l pv kv dv) (l' : Bool) (pv' kv' dv' : Value) :
    Nb ((((w.setCell ⟨b, 0, none⟩ (.bool l')).setCell ⟨b, 1, none⟩ pv').setCell ⟨b, 2, none⟩ kv').setCell ⟨b, 3, none⟩ dv') b l' pv' kv' dv' ∧
    Kp (only b) w ((((w.setCell ⟨b, 0, none⟩ (.bool l')).setCell ⟨b, 1, none⟩ pv').setCell ⟨b, 2, none⟩ kv').setCell ⟨b, 3, none⟩ dv') :=
  ⟨(((h.set0 l').set1 pv').set2 kv').set3 dv', (((Kp.setCell (S := only b) _ _ _ _ rfl).then (Kp.setCell _ _ _ _ rfl)).then (Kp.setCell _ _ _ _ rfl)).then (Kp.setCell _ _ _ _ rfl)⟩
theorem load_nb {w : World} {g : Nat} {l : Bool} {a1 a2 a3 : Option Addr} {n1 c1 n2 c2 n3 c3 : Nat} (h : Nb w g l (.slice a1 n1 c1) (.slice a2 n2 c2) (.slice a3 n3 c3)) : (loadVar 27 ⟨g, 0, none⟩).run Tryd.prog w = .ok (.agg #[.bool l, .slice a1 n1 c1, .slice a2 n2 c2, .slice a3 n3 c3]) w := by
  have c0 := h.c0
  have c1 := h.c1
  have c2 := h.c2
  have c3 := h.c3
  go_simp
theorem results_nb1 {fn : Func} {p : Tmp} (h : fn.results = #[.cell p 27]) (tmps : Array Value) (g : Nat) (W : World) {l : Bool} {a1 a2 a3 : Option Addr} {n1 c1 n2 c2 n3 c3 : Nat} (hp : tmps.getD p undef = .pointer (some ⟨g, 0, none⟩)) (hV : Nb W g l (.slice a1 n1 c1) (.slice a2 n2 c2) (.slice a3 n3 c3)) :
    (results fn tmps).run Tryd.prog W = .ok (.agg #[.bool l, .slice a1 n1 c1, .slice a2 n2 c2, .slice a3 n3 c3]) W := by
  have e : (results fn tmps).run Tryd.prog W = ((asAddr (tmps.getD p undef)).run Tryd.prog W).andThen fun a w1 => (loadVar 27 a).run Tryd.prog w1 := by
    simp only [results, h]
    simp [Sem.run_bind, Result.andThen]
  rw [e, hp]
  simp [asAddr, Result.andThen, load_nb hV]
theorem results_nb2t {fn : Func} {p q u : Tmp} (h : fn.results = #[.cell p 27, .cell q 27, .tmp u]) (tmps : Array Value) (g g' : Nat) (W : World) (er : Value) {l l' : Bool} {a1 a2 a3 a1' a2' a3' : Option Addr} {n1 c1 n2 c2 n3 c3 n1' c1' n2' c2' n3' c3' : Nat} (hp : tmps.getD p undef = .pointer (some ⟨g, 0, none⟩)) (hq : tmps.getD q undef = .pointer (some ⟨g', 0, none⟩)) (hu : tmps.getD u undef = er)
    (hV : Nb W g l (.slice a1 n1 c1) (.slice a2 n2 c2) (.slice a3 n3 c3)) (hV' : Nb W g' l' (.slice a1' n1' c1') (.slice a2' n2' c2') (.slice a3' n3' c3')) :
    (results fn tmps).run Tryd.prog W = .ok (.tuple #[.agg #[.bool l, .slice a1 n1 c1, .slice a2 n2 c2, .slice a3 n3 c3], .agg #[.bool l', .slice a1' n1' c1', .slice a2' n2' c2', .slice a3' n3' c3'], er]) W := by
  have hp' : tmps[p]?.getD undef = .pointer (some ⟨g, 0, none⟩) := by simpa using hp
  have hq' : tmps[q]?.getD undef = .pointer (some ⟨g', 0, none⟩) := by simpa using hq
  have hu' : tmps[u]?.getD undef = er := by simpa using hu
  simp only [results, h]
  simp [Sem.run_bind, Result.andThen, hp', hq', hu', asAddr, load_nb hV, load_nb hV']

end Go.Proofs.YtponhibiomcidaaDoor
