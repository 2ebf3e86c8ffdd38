/- A run with a table of entries, out of what its Look tells. Conditions: those that each theorem states. -/
import Derived.Test.YthopmlgfklhagabDoorHRd
import Derived.Test.YthopmlgfklhagabDoorHSm
import Derived.Test.YthopmlgfklhagabDoorHJm
namespace Go.Proofs.YthopmlgfklhagabDoor
open Go.RowKit
set_option linter.unusedVariables false

/-- What a table's Look tells. -/
def TabLook : Prop := ∀ (sv : Value) (t : List Wr) (k : V) (w : World), Rw Wr.cells 7 w sv t → Calls Tryd.prog 6 #[sv, k.val] w fun e w' => e = .returned (.tuple #[(obV (lookT t k)).val, .bool (lookT t k).isSome]) ∧ w.grownBy w' none
theorem Rw.kpw {α : Type} {c : α → List Value} {n : Nat} {B : Bd} {w w' : World} {v : Value} {l : List α} (h : Rw c n w v l) (hk : Kp (Bk B) w w') (hB : w.heap.size ≤ B.1) : Rw c n w' v l := by
  obtain ⟨a, cap, rfl, h1, h2, h3⟩ := h
  refine ⟨a, cap, rfl, h1, h2, fun i hi => ?_⟩
  obtain ⟨b, off, rfl, hb, hc⟩ := h3 i hi
  exact ⟨b, off, rfl, Nat.lt_of_lt_of_le hb hk.size, fun j u hu => hk.cell (hc j u hu) (fun hh => by have := hh.1; omega)⟩
theorem ask_tab (hL : TabLook) (B : Bd) (sv : Value) (t : List Wr) (w0 : World) (hR : Rw Wr.cells 7 w0 sv t) (hB : w0.heap.size ≤ B.1) : AskP B (.iface 28 sv) (lookT t) w0 :=
  fun k W _ hK => m_ask_tab sv k _ _ W (fun W' hg => hL sv t k W' ((hR.kpw hK hB).keptN hg))
/-- A run's answer, its slices written out. -/
def RunS (e : Ending) (w' : World) (E : Ef) (X : Int) : Prop := ∃ a1 m1 c1 e1 n1 d1 r1 o1 t1 h1 p1 q1, e = .returned (.tuple #[.agg #[.slice a1 m1 c1, .slice e1 n1 d1, .slice r1 o1 t1, .int .i64 E.sl, .int .i64 E.en, .int .i64 E.v.k, .int .i64 E.v.n, .string E.v.s, .int .i64 E.pc, .slice h1 p1 q1], .int .i64 X]) ∧ EfR w' (.agg #[.slice a1 m1 c1, .slice e1 n1 d1, .slice r1 o1 t1, .int .i64 E.sl, .int .i64 E.en, .int .i64 E.v.k, .int .i64 E.v.n, .string E.v.s, .int .i64 E.pc, .slice h1 p1 q1]) E
theorem runS {e : Ending} {w' : World} {E : Ef} {X : Int} (h : RunP e w' E X) : RunS e w' E X := by
  obtain ⟨x, rfl, hE⟩ := h
  have hE' := hE
  obtain ⟨pv, ov, kv, rv, rfl, ⟨_, _, rfl, _⟩, ⟨_, _, rfl, _⟩, ⟨_, _, rfl, _⟩, ⟨_, _, rfl, _⟩⟩ := hE
  exact ⟨_, _, _, _, _, _, _, _, _, _, _, _, rfl, hE'⟩
theorem run_tab (hL : TabLook) (v rv sv : Value) (l : List In) (pc : Int) (rg : List V) (t : List Wr) (w : World) (hI : Ins w v l) (hwf : ∀ x ∈ l, x.wf) (hG : Glob w) (hr : Rw V.cells 3 w rv rg) (hrw : ∀ x ∈ rg, x.wf) (ht : Rw Wr.cells 7 w sv t) (htw : ∀ x ∈ t, x.v.wf) :
    Calls Tryd.prog 12 #[v, .agg #[.int .i64 pc, rv], .iface 28 sv] w fun e w' => RunS e w' (runE (lookT t) l pc rg) (runX l pc rg) ∧ w.grownBy w' none :=
  (m_run v rv _ l pc rg (lookT t) w hI hwf hG hr hrw (lookT_wf htw) (.inr ⟨_, _, rfl⟩) (fun W0 d hg => ask_tab hL (W0.heap.size, d) sv t W0 (ht.keptN hg) (Nat.le_refl _))).mono (fun e w' h => ⟨runS h.1, h.2⟩)
theorem run_nil (v rv : Value) (l : List In) (pc : Int) (rg : List V) (w : World) (hI : Ins w v l) (hwf : ∀ x ∈ l, x.wf) (hG : Glob w) (hr : Rw V.cells 3 w rv rg) (hrw : ∀ x ∈ rg, x.wf) :
    Calls Tryd.prog 12 #[v, .agg #[.int .i64 pc, rv], .nilIface] w fun e w' => RunS e w' (runE (fun _ => none) l pc rg) (runX l pc rg) ∧ w.grownBy w' none :=
  (m_run v rv _ l pc rg (fun _ => none) w hI hwf hG hr hrw (fun _ _ h => by cases h) (.inl rfl) (fun W0 d _ => ask_nil _ W0)).mono (fun e w' h => ⟨runS h.1, h.2⟩)

end Go.Proofs.YthopmlgfklhagabDoor
