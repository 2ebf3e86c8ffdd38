/- Changes and a pager as they lie in memory. Definitions and laws, of the program the layout alone. -/
import Derived.Test.YtgfijbbibafdfaaGreatPMath
import Derived.Test.YtgfijbbibafdfaaGreatSlab
import Derived.WalkLawsBesides
namespace Go.Proofs.YtgfijbbibafdfaaGreat
open Go Go.RowKit
set_option linter.unusedVariables false

def Chg.cells (c : Chg) : List Value := [.int .i64 c.page, .string c.data]
def ccs (l : List Chg) : List Value := l.flatMap Chg.cells
theorem ccs_len (l : List Chg) : (ccs l).length = l.length * 2 := by
  induction l with
  | nil => rfl
  | cons x l ih => simp only [ccs, List.flatMap_cons, List.length_append, List.length_cons] at *; rw [ih]; simp [Chg.cells]; omega
theorem ccs_append (l m : List Chg) : ccs (l ++ m) = ccs l ++ ccs m := by simp [ccs]
theorem ccs_one (l : List Chg) : ∀ u ∈ ccs l, u.oneCell' = true := by
  intro u hu
  obtain ⟨x, _, h⟩ := List.mem_flatMap.1 hu
  simp only [Chg.cells, List.mem_cons, List.not_mem_nil, or_false] at h
  rcases h with rfl | rfl <;> rfl
theorem ccs_at (l : List Chg) : ∀ (i j : Nat) (h : i < l.length), j < 2 → (ccs l)[i * 2 + j]? = (Chg.cells l[i])[j]? := by
  induction l with
  | nil => intro i j h; simp at h
  | cons x l ih =>
    intro i j h hj
    have e : ccs (x :: l) = Chg.cells x ++ ccs l := by simp [ccs]
    rw [e]
    rcases i with _ | i
    · rw [List.getElem?_append_left (by simp [Chg.cells]; omega)]
      simp
    · rw [List.getElem?_append_right (by simp [Chg.cells]; omega)]
      have h2 := ih i j (by simpa using h) hj
      have e2 : (i + 1) * 2 + j - (Chg.cells x).length = i * 2 + j := by simp [Chg.cells]; omega
      rw [e2, h2]
      simp
theorem ccs_set (l : List Chg) : ∀ (i : Nat) (c : Chg), i < l.length → ccs (l.set i c) = ((ccs l).set (i * 2) (.int .i64 c.page)).set (i * 2 + 1) (.string c.data) := by
  induction l with
  | nil => intro i c h; simp at h
  | cons x l ih =>
    intro i c h
    have e : ∀ (y : Chg) m, ccs (y :: m) = .int .i64 y.page :: .string y.data :: ccs m := fun y m => by simp [ccs, Chg.cells]
    rcases i with _ | i
    · rw [List.set_cons_zero, e, e]
      simp
    · rw [List.set_cons_succ, e, e, ih i c (by simpa using h), show (i + 1) * 2 = i * 2 + 1 + 1 by omega]
      simp
/-- The slice value v reads as the changes l, and lies in blocks of S. -/
def Chs (S : Nat → Prop) (w : World) (v : Value) (l : List Chg) : Prop :=
  ∃ a c, v = .slice a l.length c ∧ l.length ≤ c ∧ c ≤ maxLen ∧ ∀ i (h : i < l.length), ∃ b off, a = some ⟨b, off, none⟩ ∧ S b ∧ b < w.heap.size ∧
    w.cell? ⟨b, off + i * 2, none⟩ = some (.int .i64 l[i].page) ∧ w.cell? ⟨b, off + i * 2 + 1, none⟩ = some (.string l[i].data)
theorem Chs.nil (S : Nat → Prop) (w : World) : Chs S w (.slice none 0 0) [] := ⟨none, 0, rfl, Nat.le_refl _, Nat.zero_le _, fun i h => absurd h (by simp)⟩
theorem Chs.kept {S T : Nat → Prop} {w w' : World} {v : Value} {l : List Chg} (h : Chs S w v l) (hk : Kp T w w') (hS : ∀ k, S k → ¬ T k) : Chs S w' v l := by
  obtain ⟨a, c, rfl, h1, h2, h3⟩ := h
  refine ⟨a, c, rfl, h1, h2, fun i hi => ?_⟩
  obtain ⟨b, off, rfl, hb, hl, c0, c1⟩ := h3 i hi
  exact ⟨b, off, rfl, hb, Nat.lt_of_lt_of_le hl hk.size, hk.cell c0 (hS b hb), hk.cell c1 (hS b hb)⟩
theorem Chs.keptN {S : Nat → Prop} {w w' : World} {v : Value} {l : List Chg} (h : Chs S w v l) (hk : Kp none' w w') : Chs S w' v l := h.kept hk (fun _ _ h => h)
theorem Chs.mono {S T : Nat → Prop} {w : World} {v : Value} {l : List Chg} (h : Chs S w v l) (hS : ∀ k, k < w.heap.size → S k → T k) : Chs T w v l := by
  obtain ⟨a, c, rfl, h1, h2, h3⟩ := h
  refine ⟨a, c, rfl, h1, h2, fun i hi => ?_⟩
  obtain ⟨b, off, rfl, hb, hl, c0, c1⟩ := h3 i hi
  exact ⟨b, off, rfl, hS b hl hb, hl, c0, c1⟩
theorem Chs.shape {S : Nat → Prop} {w : World} {v : Value} {l : List Chg} (h : Chs S w v l) : ∃ a c, v = .slice a l.length c := by
  obtain ⟨a, c, rfl, _⟩ := h
  exact ⟨a, c, rfl⟩
/-- Changes that a call itself has laid (of either kind of Change: t). -/
def OwC (t : TypeId) (w : World) (base : Nat) (v : Value) (l : List Chg) : Prop := w.ownsRow base t 2 v l.length (ccs l)
theorem OwC.nil (t : TypeId) (w : World) (base : Nat) : OwC t w base (.slice none 0 0) [] := World.ownsRow_nil w base t 2
theorem OwC.lt {t : TypeId} {w : World} {base : Nat} {v : Value} {l : List Chg} (h : OwC t w base v l) : ∀ k, v.ownBlock = some k → base ≤ k ∧ k < w.heap.size := World.ownsRow.lt h
theorem OwC.kept {t : TypeId} {w w' : World} {base : Nat} {v : Value} {l : List Chg} {S : Nat → Prop} (h : OwC t w base v l) (hk : Kp S w w') (hS : ∀ k, v.ownBlock = some k → ¬ S k) : OwC t w' base v l := by
  rcases h.2 with ⟨rfl, h0⟩ | ⟨g, cap, cur, rfl, hb, hg, h1, h2, h3, h4⟩
  · exact ⟨h.1, .inl ⟨rfl, h0⟩⟩
  · have hlt : g < w.heap.size := (Array.getElem?_eq_some_iff.1 hg).1
    exact ⟨h.1, .inr ⟨g, cap, cur, rfl, hb, by rw [hk.block g hlt (hS g rfl)]; exact hg, h1, h2, h3, h4⟩⟩
theorem OwC.keptN {t : TypeId} {w w' : World} {base : Nat} {v : Value} {l : List Chg} (h : OwC t w base v l) (hk : Kp none' w w') : OwC t w' base v l := h.kept hk (fun _ _ h => h)
theorem OwC.mono {t : TypeId} {w : World} {base base' : Nat} {v : Value} {l : List Chg} (h : OwC t w base v l) (hb : base' ≤ base) : OwC t w base' v l := by
  rcases h.2 with ⟨rfl, h0⟩ | ⟨g, cap, cur, rfl, hb', hg, h1, h2, h3, h4⟩
  · exact ⟨h.1, .inl ⟨rfl, h0⟩⟩
  · exact ⟨h.1, .inr ⟨g, cap, cur, rfl, Nat.le_trans hb hb', hg, h1, h2, h3, h4⟩⟩
theorem OwC.chs {t : TypeId} {w : World} {base : Nat} {v : Value} {l : List Chg} (h : OwC t w base v l) : Chs (fun k => base ≤ k) w v l := by
  have h' := h
  rcases h.2 with ⟨rfl, h0⟩ | ⟨g, cap, cur, rfl, hb, hg, hnc, hcm, hcs, htake⟩
  · have : l = [] := List.eq_nil_of_length_eq_zero h0
    subst this
    exact Chs.nil _ w
  · refine ⟨some ⟨g, 0, none⟩, cap, rfl, hnc, hcm, fun i hi => ⟨g, 0, rfl, hb, (Array.getElem?_eq_some_iff.1 hg).1, ?_⟩⟩
    have hc := World.ownsRow.cells h' (g := g) rfl
    have plain : ∀ q, (⟨g, 0, none⟩ : Addr).add q = ⟨g, 0 + q, none⟩ := by intro q; unfold Addr.add; split <;> simp_all
    have g0 := hc (i * 2 + 0) _ (by rw [ccs_at l i 0 hi (by omega)]; rfl)
    have g1 := hc (i * 2 + 1) _ (by rw [ccs_at l i 1 hi (by omega)]; rfl)
    rw [plain] at g0 g1
    exact ⟨g0, g1⟩
theorem OwC.at {t : TypeId} {w : World} {base g n cap : Nat} {l : List Chg} (h : OwC t w base (.slice (some ⟨g, 0, none⟩) n cap) l) (i : Nat) (hi : i < l.length) : w.there g (i * 2) 2 ∧ base ≤ g ∧ n = l.length := by
  have h' := h
  rcases h.2 with ⟨h1, _⟩ | ⟨g', cap', cur, h1, hb, hg, hnc, hcm, hcs, htake⟩
  · cases h1
  · cases h1
    refine ⟨fun j hj => ?_, hb, rfl⟩
    have hsz : l.length * 2 ≤ cap * 2 := Nat.mul_le_mul_right _ hnc
    constructor
    · rw [cell_of_row _ _ _ _ _ _ hg]
      have : i * 2 + j < cur.size := by omega
      simp [this]
    · unfold World.frozen?
      rw [show w.heap[(⟨g, i * 2 + j, none⟩ : Addr).block]? = _ from hg]
      simp
/-- What a store of a change asks of its two cells. -/
theorem OwC.facts {t : TypeId} {w : World} {base g n cap : Nat} {l : List Chg} (h : OwC t w base (.slice (some ⟨g, 0, none⟩) n cap) l) (i : Nat) (hi : i < l.length) (v : Value) :
    ∃ x0 x1, w.cell? ⟨g, i * 2, none⟩ = some x0 ∧ w.frozen? ⟨g, i * 2, none⟩ = false ∧ (w.setCell ⟨g, i * 2, none⟩ v).cell? ⟨g, i * 2 + 1, none⟩ = some x1 ∧ (w.setCell ⟨g, i * 2, none⟩ v).frozen? ⟨g, i * 2 + 1, none⟩ = false := by
  obtain ⟨ht, _, _⟩ := h.at i hi
  obtain ⟨a0, a1⟩ := ht 0 (by omega)
  obtain ⟨b0, b1⟩ := ht 1 (by omega)
  obtain ⟨x0, hx0⟩ := Option.isSome_iff_exists.1 a0
  obtain ⟨x1, hx1⟩ := Option.isSome_iff_exists.1 b0
  refine ⟨x0, x1, hx0, a1, ?_, ?_⟩
  · rw [World.cell?_setCell_other (h := fun e => by have := congrArg Addr.off e; simp at this)]
    exact hx1
  · rw [World.frozen?_setCell]
    exact b1
/-- A change is stored whole. -/
theorem OwC.stored {t : TypeId} {w : World} {base g n cap : Nat} {l : List Chg} (h : OwC t w base (.slice (some ⟨g, 0, none⟩) n cap) l) (i : Nat) (hi : i < l.length) (c : Chg) :
    OwC t (w.setCells g (i * 2) c.cells) base (.slice (some ⟨g, 0, none⟩) n cap) (l.set i c) ∧ w.grownBy (w.setCells g (i * 2) c.cells) (some g) := by
  obtain ⟨_, _, rfl⟩ := h.at i hi
  have h1 := World.ownsRow.stored (g := g) (cap := cap) h (i * 2) (.int .i64 c.page)
  have h2 := World.ownsRow.stored (g := g) (cap := cap) h1.1 (i * 2 + 1) (.string c.data)
  have e : w.setCells g (i * 2) c.cells = (w.setCell ⟨g, i * 2, none⟩ (.int .i64 c.page)).setCell ⟨g, i * 2 + 1, none⟩ (.string c.data) := rfl
  rw [e]
  refine ⟨?_, ?_⟩
  · unfold OwC
    rw [ccs_set l i c hi, List.length_set]
    exact h2.1
  · exact h1.2.trans h2.2

/-- A pager: its four cells, the changes that it keeps. -/
structure Pag (w : World) (g : Nat) (p : Dp) (n : Nat) (c : Int) (bv : Value) (bl : List Chg) : Prop where
  c0 : w.cell? ⟨g, 0, none⟩ = some (.pointer (some ⟨p.d, 0, none⟩))
  c1 : w.cell? ⟨g, 1, none⟩ = some (.int .i64 n)
  c2 : w.cell? ⟨g, 2, none⟩ = some (.int .i64 c)
  c3 : w.cell? ⟨g, 3, none⟩ = some bv
  fr : ∀ j, w.frozen? ⟨g, j, none⟩ = false
  bs : Chs (fun k => ¬ p.mem k ∧ k ≠ g) w bv bl
  gp : ¬ p.mem g
theorem Pag.lt {w : World} {g : Nat} {p : Dp} {n : Nat} {c : Int} {bv : Value} {bl : List Chg} (h : Pag w g p n c bv bl) : g < w.heap.size := lt_of_cell h.c0
theorem Pag.kept {w w' : World} {g : Nat} {p : Dp} {n : Nat} {c : Int} {bv : Value} {bl : List Chg} (h : Pag w g p n c bv bl) (hk : Kp p.mem w w') : Pag w' g p n c bv bl :=
  ⟨hk.cell h.c0 h.gp, hk.cell h.c1 h.gp, hk.cell h.c2 h.gp, hk.cell h.c3 h.gp, fun j => by rw [hk.frozen h.lt h.gp]; exact h.fr j, h.bs.kept hk (fun _ h => h.1), h.gp⟩
theorem Pag.keptN {w w' : World} {g : Nat} {p : Dp} {n : Nat} {c : Int} {bv : Value} {bl : List Chg} (h : Pag w g p n c bv bl) (hk : Kp none' w w') : Pag w' g p n c bv bl := h.kept (hk.mono (fun _ _ h => h.elim))
/-- .. while other pagers of its device are written. -/
theorem Pag.keptS {w w' : World} {g : Nat} {p : Dp} {n : Nat} {c : Int} {bv : Value} {bl : List Chg} {S : Nat → Prop} (h : Pag w g p n c bv bl) (hk : Kp S w w') (hg : ¬ S g) (hS : ∀ k, ¬ p.mem k → k ≠ g → ¬ S k) : Pag w' g p n c bv bl :=
  ⟨hk.cell h.c0 hg, hk.cell h.c1 hg, hk.cell h.c2 hg, hk.cell h.c3 hg, fun j => by rw [hk.frozen h.lt hg]; exact h.fr j, h.bs.kept hk (fun k h => hS k h.1 h.2), h.gp⟩

end Go.Proofs.YtgfijbbibafdfaaGreat
