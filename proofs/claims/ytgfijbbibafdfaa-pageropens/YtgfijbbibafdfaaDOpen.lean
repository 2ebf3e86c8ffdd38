/- How a step and a script that came in lie in memory: their reading opened. No conditions but those that each theorem states. -/
import Derived.Test.YtgfijbbibafdfaaRows
import Derived.Test.YtgfijbbibafdfaaDDoes
import Derived.ProofKit
import Derived.OpenShut
import Derived.Lib.SmallJoins
import Derived.Deep.Strs
namespace Go.Proofs.Ytgfijbbibafdfaa
open Go.ChangeShapes Go.WideShapes Go.ChangeAt Go.RowKit Go.Joins Go.Deep
set_option linter.unusedVariables false

theorem cellsI : Try.prog.cellsOf 3 = 1 := by kernel_rfl
theorem cellsS : Try.prog.cellsOf 9 = 1 := by kernel_rfl
theorem cellsBs : Try.prog.cellsOf 49 = 1 := by kernel_rfl
theorem cellsB : Try.prog.cellsOf 4 = 1 := by kernel_rfl

theorem trod_struct5 {H : Type} {enc : TypeId × Value → H} {P : Program} {w : World} {base : Nat} {spare : Nat → Bool} {held : Bool} {t : TypeId} {f0 f1 f2 f3 f4 : Field} {fuel : Nat} {cs : List Value} {x : DataW H × List MemPlace} (ht : P.underlying t = some (.struct #[f0, f1, f2, f3, f4])) (h : DataW.trod enc P w base spare held fuel t cs = some x) :
    ∃ y0 y1 y2 y3 y4 n, cs.length = P.cellsOf t ∧ DataW.trod enc P w base spare held n f0.type ((cs.drop f0.offset).take (P.cellsOf f0.type)) = some y0 ∧
      DataW.trod enc P w base spare held n f1.type ((cs.drop f1.offset).take (P.cellsOf f1.type)) = some y1 ∧ DataW.trod enc P w base spare held n f2.type ((cs.drop f2.offset).take (P.cellsOf f2.type)) = some y2 ∧
      DataW.trod enc P w base spare held n f3.type ((cs.drop f3.offset).take (P.cellsOf f3.type)) = some y3 ∧ DataW.trod enc P w base spare held n f4.type ((cs.drop f4.offset).take (P.cellsOf f4.type)) = some y4 := by
  obtain ⟨xs, n, _, rfl, hl, hlen, hf⟩ := DataW.trod_struct ht h
  match xs, hlen with
  | [y0, y1, y2, y3, y4], _ => exact ⟨y0, y1, y2, y3, y4, n, hl, by simpa using hf 0 f0 rfl, by simpa using hf 1 f1 rfl, by simpa using hf 2 f2 rfl, by simpa using hf 3 f3 rfl, by simpa using hf 4 f4 rfl⟩

theorem open_bools {H : Type} {enc : TypeId × Value → H} {W : World} {fuel : Nat} {cs : List Value} {x : DataW H × List MemPlace} (h : DataW.trod enc Try.prog W 0 (fun _ => true) true fuel 49 cs = some x) :
    ∃ (kv : Value) (ks : List Bool), cs = [kv] ∧ Sl Value.bool W.heap.size W kv ks := by
  rcases open_slice Try.underlying49 h with ⟨hcs, hx⟩ | ⟨a, len, c, m, n, D, Pl, hcs, _, hl, hm, hmm, hx, hel⟩
  · exact ⟨_, [], hcs, Sl.nil _ _ _⟩
  · simp only [if_true] at hmm
    subst hmm
    rw [cellsB] at hel
    obtain ⟨th, hth⟩ := choose_lt (α := Bool) (n := len) (p := fun i k => W.cells? 0 (a.add (i * 1)) 1 = some [.bool k]) (fun i hi => by
      obtain ⟨cs', h1, h2⟩ := hel i (by omega)
      obtain ⟨k, e0, _⟩ := DataW.trod_bool Try.underlying4 h2
      subst e0
      exact ⟨k, h1⟩)
    obtain ⟨b, off, spot⟩ := a
    have cells : ∀ i, i < len → W.cell? (((⟨b, off, spot⟩ : Addr).add (i * 1)).add 0) = some (.bool (th i)) := by
      intro i hi
      rw [(World.cells?_some (hth i hi)).2.2 0 (by omega)]
      rfl
    refine ⟨_, (List.range len).map th, hcs, some ⟨b, off, spot⟩, m, by simp, by simpa using hl, hm, ?_⟩
    intro i hi
    have hi' : i < len := by simpa using hi
    have hspot : spot = none := by simpa [Addr.add] using World.cell?_spot (cells 0 (by omega))
    subst hspot
    have plain2 : ∀ o q, (⟨b, o, none⟩ : Addr).add q = ⟨b, o + q, none⟩ := by intro o q; unfold Addr.add; split <;> simp_all
    have g := cells i hi'
    simp only [plain2, Nat.mul_one, Nat.add_zero] at g
    have e : ((List.range len).map th)[i] = th i := by simp
    exact ⟨b, off, rfl, lt_of_cell g, by rw [e]; exact g⟩

/-- A script in memory, among the blocks below B. -/
def Ops (B : Nat) (w : World) (v : Value) (l : List OpD) : Prop :=
  ∃ a c, v = .slice a l.length c ∧ l.length ≤ c ∧ c ≤ maxLen ∧ ∀ i (h : i < l.length), ∃ b off, a = some ⟨b, off, none⟩ ∧ b < B ∧ w.rangeAt b (off + i * 5) l[i].cells.toList ∧ l[i].ok B w
theorem Ops.nil (B : Nat) (w : World) : Ops B w (.slice none 0 0) [] := ⟨none, 0, rfl, Nat.le_refl _, Nat.zero_le _, fun i h => absurd h (by simp)⟩
theorem Ops.kept {B : Nat} {w w' : World} {v : Value} {l : List OpD} {S : Nat → Prop} (h : Ops B w v l) (hk : Kp S w w') (hS : ∀ k, k < B → ¬ S k) : Ops B w' v l := by
  obtain ⟨a, c, rfl, h1, h2, h3⟩ := h
  refine ⟨a, c, rfl, h1, h2, fun i hi => ?_⟩
  obtain ⟨b, off, rfl, hb, c0, c1⟩ := h3 i hi
  exact ⟨b, off, rfl, hb, hk.rangeAt c0 (hS b hb), c1.kept hk hS⟩
end Go.Proofs.Ytgfijbbibafdfaa
