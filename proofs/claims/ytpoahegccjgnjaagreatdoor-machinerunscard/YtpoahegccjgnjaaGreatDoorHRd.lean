/- Contract, over the turned program: machine.Run, the effects of a step. Conditions: those that the theorem states. -/
import Derived.Test.YtpoahegccjgnjaaGreatDoorHRa
import Derived.Test.YtpoahegccjgnjaaGreatDoorHRb
import Derived.Test.YtpoahegccjgnjaaGreatDoorHJr
import Derived.Deep.CutRange
import Derived.Deep.Onto
namespace Go.Proofs.YtpoahegccjgnjaaGreatDoor
open Go.RowKit
set_option linter.unusedVariables false

set_option maxHeartbeats 1000000 in
theorem tb_all {w : World} {g : Nat} {a0 : Value} {a1 : Int} {a2 a3 a4 a5 : Value} {a6 a7 : Int} {a8 : V} {a9 : Int} {a10 : Value} {a11 : Bool} (h : Tb w g a0 a1 a2 a3 a4 a5 a6 a7 a8 a9 a10 a11) (tv : Value) (pc : Int) (rv pv ov kv : Value) (sl en : Int) (v : V) (fp : Int) (fr : Value) (ed : Bool) :
    Tb ((((((((((((((w.setCell ⟨g, 0, none⟩ tv).setCell ⟨g, 1, none⟩ (.int .i64 pc)).setCell ⟨g, 2, none⟩ rv).setCell ⟨g, 3, none⟩ pv).setCell ⟨g, 4, none⟩ ov).setCell ⟨g, 5, none⟩ kv).setCell ⟨g, 6, none⟩ (.int .i64 sl)).setCell ⟨g, 7, none⟩ (.int .i64 en)).setCell ⟨g, 8, none⟩ (.int .i64 v.k)).setCell ⟨g, 9, none⟩ (.int .i64 v.n)).setCell ⟨g, 10, none⟩ (.string v.s)).setCell ⟨g, 11, none⟩ (.int .i64 fp)).setCell ⟨g, 12, none⟩ fr).setCell ⟨g, 13, none⟩ (.bool ed)) g tv pc rv pv ov kv sl en v fp fr ed ∧ w.grownBy ((((((((((((((w.setCell ⟨g, 0, none⟩ tv).setCell ⟨g, 1, none⟩ (.int .i64 pc)).setCell ⟨g, 2, none⟩ rv).setCell ⟨g, 3, none⟩ pv).setCell ⟨g, 4, none⟩ ov).setCell ⟨g, 5, none⟩ kv).setCell ⟨g, 6, none⟩ (.int .i64 sl)).setCell ⟨g, 7, none⟩ (.int .i64 en)).setCell ⟨g, 8, none⟩ (.int .i64 v.k)).setCell ⟨g, 9, none⟩ (.int .i64 v.n)).setCell ⟨g, 10, none⟩ (.string v.s)).setCell ⟨g, 11, none⟩ (.int .i64 fp)).setCell ⟨g, 12, none⟩ fr).setCell ⟨g, 13, none⟩ (.bool ed)) (some g) := by
  have g' : ∀ (w : World) (o : Nat) (u : Value), w.grownBy (w.setCell ⟨g, o, none⟩ u) (some g) := fun w o u => ⟨rfl, rfl, rfl, by simp, fun k _ hk => heap_setCell_other w ⟨g, o, none⟩ k u (fun e => hk (by simp [e]))⟩
  have h0 : (w.setCell ⟨g, 0, none⟩ tv).heap[g]? = some (.cells #[tv, .int .i64 a1, a2, a3, a4, a5, .int .i64 a6, .int .i64 a7, .int .i64 a8.k, .int .i64 a8.n, .string a8.s, .int .i64 a9, a10, .bool a11] 50 (0, 0)) := heap_setCell_same _ g 0 _ _ tv h
  have h1 : ((w.setCell ⟨g, 0, none⟩ tv).setCell ⟨g, 1, none⟩ (.int .i64 pc)).heap[g]? = some (.cells #[tv, .int .i64 pc, a2, a3, a4, a5, .int .i64 a6, .int .i64 a7, .int .i64 a8.k, .int .i64 a8.n, .string a8.s, .int .i64 a9, a10, .bool a11] 50 (0, 0)) := heap_setCell_same _ g 1 _ _ (.int .i64 pc) h0
  have h2 : (((w.setCell ⟨g, 0, none⟩ tv).setCell ⟨g, 1, none⟩ (.int .i64 pc)).setCell ⟨g, 2, none⟩ rv).heap[g]? = some (.cells #[tv, .int .i64 pc, rv, a3, a4, a5, .int .i64 a6, .int .i64 a7, .int .i64 a8.k, .int .i64 a8.n, .string a8.s, .int .i64 a9, a10, .bool a11] 50 (0, 0)) := heap_setCell_same _ g 2 _ _ rv h1
  have h3 : ((((w.setCell ⟨g, 0, none⟩ tv).setCell ⟨g, 1, none⟩ (.int .i64 pc)).setCell ⟨g, 2, none⟩ rv).setCell ⟨g, 3, none⟩ pv).heap[g]? = some (.cells #[tv, .int .i64 pc, rv, pv, a4, a5, .int .i64 a6, .int .i64 a7, .int .i64 a8.k, .int .i64 a8.n, .string a8.s, .int .i64 a9, a10, .bool a11] 50 (0, 0)) := heap_setCell_same _ g 3 _ _ pv h2
  have h4 : (((((w.setCell ⟨g, 0, none⟩ tv).setCell ⟨g, 1, none⟩ (.int .i64 pc)).setCell ⟨g, 2, none⟩ rv).setCell ⟨g, 3, none⟩ pv).setCell ⟨g, 4, none⟩ ov).heap[g]? = some (.cells #[tv, .int .i64 pc, rv, pv, ov, a5, .int .i64 a6, .int .i64 a7, .int .i64 a8.k, .int .i64 a8.n, .string a8.s, .int .i64 a9, a10, .bool a11] 50 (0, 0)) := heap_setCell_same _ g 4 _ _ ov h3
  have h5 : ((((((w.setCell ⟨g, 0, none⟩ tv).setCell ⟨g, 1, none⟩ (.int .i64 pc)).setCell ⟨g, 2, none⟩ rv).setCell ⟨g, 3, none⟩ pv).setCell ⟨g, 4, none⟩ ov).setCell ⟨g, 5, none⟩ kv).heap[g]? = some (.cells #[tv, .int .i64 pc, rv, pv, ov, kv, .int .i64 a6, .int .i64 a7, .int .i64 a8.k, .int .i64 a8.n, .string a8.s, .int .i64 a9, a10, .bool a11] 50 (0, 0)) := heap_setCell_same _ g 5 _ _ kv h4
  have h6 : (((((((w.setCell ⟨g, 0, none⟩ tv).setCell ⟨g, 1, none⟩ (.int .i64 pc)).setCell ⟨g, 2, none⟩ rv).setCell ⟨g, 3, none⟩ pv).setCell ⟨g, 4, none⟩ ov).setCell ⟨g, 5, none⟩ kv).setCell ⟨g, 6, none⟩ (.int .i64 sl)).heap[g]? = some (.cells #[tv, .int .i64 pc, rv, pv, ov, kv, .int .i64 sl, .int .i64 a7, .int .i64 a8.k, .int .i64 a8.n, .string a8.s, .int .i64 a9, a10, .bool a11] 50 (0, 0)) := heap_setCell_same _ g 6 _ _ (.int .i64 sl) h5
  have h7 : ((((((((w.setCell ⟨g, 0, none⟩ tv).setCell ⟨g, 1, none⟩ (.int .i64 pc)).setCell ⟨g, 2, none⟩ rv).setCell ⟨g, 3, none⟩ pv).setCell ⟨g, 4, none⟩ ov).setCell ⟨g, 5, none⟩ kv).setCell ⟨g, 6, none⟩ (.int .i64 sl)).setCell ⟨g, 7, none⟩ (.int .i64 en)).heap[g]? = some (.cells #[tv, .int .i64 pc, rv, pv, ov, kv, .int .i64 sl, .int .i64 en, .int .i64 a8.k, .int .i64 a8.n, .string a8.s, .int .i64 a9, a10, .bool a11] 50 (0, 0)) := heap_setCell_same _ g 7 _ _ (.int .i64 en) h6
  have h8 : (((((((((w.setCell ⟨g, 0, none⟩ tv).setCell ⟨g, 1, none⟩ (.int .i64 pc)).setCell ⟨g, 2, none⟩ rv).setCell ⟨g, 3, none⟩ pv).setCell ⟨g, 4, none⟩ ov).setCell ⟨g, 5, none⟩ kv).setCell ⟨g, 6, none⟩ (.int .i64 sl)).setCell ⟨g, 7, none⟩ (.int .i64 en)).setCell ⟨g, 8, none⟩ (.int .i64 v.k)).heap[g]? = some (.cells #[tv, .int .i64 pc, rv, pv, ov, kv, .int .i64 sl, .int .i64 en, .int .i64 v.k, .int .i64 a8.n, .string a8.s, .int .i64 a9, a10, .bool a11] 50 (0, 0)) := heap_setCell_same _ g 8 _ _ (.int .i64 v.k) h7
  have h9 : ((((((((((w.setCell ⟨g, 0, none⟩ tv).setCell ⟨g, 1, none⟩ (.int .i64 pc)).setCell ⟨g, 2, none⟩ rv).setCell ⟨g, 3, none⟩ pv).setCell ⟨g, 4, none⟩ ov).setCell ⟨g, 5, none⟩ kv).setCell ⟨g, 6, none⟩ (.int .i64 sl)).setCell ⟨g, 7, none⟩ (.int .i64 en)).setCell ⟨g, 8, none⟩ (.int .i64 v.k)).setCell ⟨g, 9, none⟩ (.int .i64 v.n)).heap[g]? = some (.cells #[tv, .int .i64 pc, rv, pv, ov, kv, .int .i64 sl, .int .i64 en, .int .i64 v.k, .int .i64 v.n, .string a8.s, .int .i64 a9, a10, .bool a11] 50 (0, 0)) := heap_setCell_same _ g 9 _ _ (.int .i64 v.n) h8
  have h10 : (((((((((((w.setCell ⟨g, 0, none⟩ tv).setCell ⟨g, 1, none⟩ (.int .i64 pc)).setCell ⟨g, 2, none⟩ rv).setCell ⟨g, 3, none⟩ pv).setCell ⟨g, 4, none⟩ ov).setCell ⟨g, 5, none⟩ kv).setCell ⟨g, 6, none⟩ (.int .i64 sl)).setCell ⟨g, 7, none⟩ (.int .i64 en)).setCell ⟨g, 8, none⟩ (.int .i64 v.k)).setCell ⟨g, 9, none⟩ (.int .i64 v.n)).setCell ⟨g, 10, none⟩ (.string v.s)).heap[g]? = some (.cells #[tv, .int .i64 pc, rv, pv, ov, kv, .int .i64 sl, .int .i64 en, .int .i64 v.k, .int .i64 v.n, .string v.s, .int .i64 a9, a10, .bool a11] 50 (0, 0)) := heap_setCell_same _ g 10 _ _ (.string v.s) h9
  have h11 : ((((((((((((w.setCell ⟨g, 0, none⟩ tv).setCell ⟨g, 1, none⟩ (.int .i64 pc)).setCell ⟨g, 2, none⟩ rv).setCell ⟨g, 3, none⟩ pv).setCell ⟨g, 4, none⟩ ov).setCell ⟨g, 5, none⟩ kv).setCell ⟨g, 6, none⟩ (.int .i64 sl)).setCell ⟨g, 7, none⟩ (.int .i64 en)).setCell ⟨g, 8, none⟩ (.int .i64 v.k)).setCell ⟨g, 9, none⟩ (.int .i64 v.n)).setCell ⟨g, 10, none⟩ (.string v.s)).setCell ⟨g, 11, none⟩ (.int .i64 fp)).heap[g]? = some (.cells #[tv, .int .i64 pc, rv, pv, ov, kv, .int .i64 sl, .int .i64 en, .int .i64 v.k, .int .i64 v.n, .string v.s, .int .i64 fp, a10, .bool a11] 50 (0, 0)) := heap_setCell_same _ g 11 _ _ (.int .i64 fp) h10
  have h12 : (((((((((((((w.setCell ⟨g, 0, none⟩ tv).setCell ⟨g, 1, none⟩ (.int .i64 pc)).setCell ⟨g, 2, none⟩ rv).setCell ⟨g, 3, none⟩ pv).setCell ⟨g, 4, none⟩ ov).setCell ⟨g, 5, none⟩ kv).setCell ⟨g, 6, none⟩ (.int .i64 sl)).setCell ⟨g, 7, none⟩ (.int .i64 en)).setCell ⟨g, 8, none⟩ (.int .i64 v.k)).setCell ⟨g, 9, none⟩ (.int .i64 v.n)).setCell ⟨g, 10, none⟩ (.string v.s)).setCell ⟨g, 11, none⟩ (.int .i64 fp)).setCell ⟨g, 12, none⟩ fr).heap[g]? = some (.cells #[tv, .int .i64 pc, rv, pv, ov, kv, .int .i64 sl, .int .i64 en, .int .i64 v.k, .int .i64 v.n, .string v.s, .int .i64 fp, fr, .bool a11] 50 (0, 0)) := heap_setCell_same _ g 12 _ _ fr h11
  have h13 : ((((((((((((((w.setCell ⟨g, 0, none⟩ tv).setCell ⟨g, 1, none⟩ (.int .i64 pc)).setCell ⟨g, 2, none⟩ rv).setCell ⟨g, 3, none⟩ pv).setCell ⟨g, 4, none⟩ ov).setCell ⟨g, 5, none⟩ kv).setCell ⟨g, 6, none⟩ (.int .i64 sl)).setCell ⟨g, 7, none⟩ (.int .i64 en)).setCell ⟨g, 8, none⟩ (.int .i64 v.k)).setCell ⟨g, 9, none⟩ (.int .i64 v.n)).setCell ⟨g, 10, none⟩ (.string v.s)).setCell ⟨g, 11, none⟩ (.int .i64 fp)).setCell ⟨g, 12, none⟩ fr).setCell ⟨g, 13, none⟩ (.bool ed)).heap[g]? = some (.cells #[tv, .int .i64 pc, rv, pv, ov, kv, .int .i64 sl, .int .i64 en, .int .i64 v.k, .int .i64 v.n, .string v.s, .int .i64 fp, fr, .bool ed] 50 (0, 0)) := heap_setCell_same _ g 13 _ _ (.bool ed) h12
  exact ⟨h13, grown_trans (grown_trans (grown_trans (grown_trans (grown_trans (grown_trans (grown_trans (grown_trans (grown_trans (grown_trans (grown_trans (grown_trans (grown_trans (g' _ _ _) (g' _ _ _) (.inl rfl)) (g' _ _ _) (.inl rfl)) (g' _ _ _) (.inl rfl)) (g' _ _ _) (.inl rfl)) (g' _ _ _) (.inl rfl)) (g' _ _ _) (.inl rfl)) (g' _ _ _) (.inl rfl)) (g' _ _ _) (.inl rfl)) (g' _ _ _) (.inl rfl)) (g' _ _ _) (.inl rfl)) (g' _ _ _) (.inl rfl)) (g' _ _ _) (.inl rfl)) (g' _ _ _) (.inl rfl)⟩
theorem kp_from3 {w3 w' : World} {B : Bd} {d : Nat} (hB : B = (w3.heap.size, d)) (h : Kp (Bk B) w3 w') : w3.grownBy w' none := by
  subst hB
  exact kp_base h
theorem OwR.sl {α : Type} {c : α → List Value} {n : Nat} {e : TypeId} {w : World} {B : Nat} {v : Value} {l : List α} (h : OwR c n e w B v l) : ∃ a m c, v = .slice a m c := by
  rcases h.shape with ⟨rfl, _⟩ | ⟨r, cap, rfl, _⟩
  · exact ⟨_, _, _, rfl⟩
  · exact ⟨_, _, _, rfl⟩
theorem sum_fin {S S' : Ms} {x : In} {f : Int → Int → Int} {en : Int} {v : V} : S.sum x f ≠ .fin S' en v := by
  unfold Ms.sum
  split <;> (intro h; cases h)
theorem put_fin {S S' : Ms} {x : Wr} {en : Int} {v : V} : S.put x ≠ .fin S' en v := by
  unfold Ms.put
  split
  · intro h; cases h
  · split <;> (intro h; cases h)
theorem fin0 {T : V → Option V} {x : In} {S S' : Ms} {n : Nat} {en : Int} {v : V} (h : doN T x S n = .fin S' en v) : en = 0 → v = zV := by
  intro e
  subst e
  unfold doN at h
  split at h
  all_goals first
    | exact absurd h sum_fin
    | exact absurd h put_fin
    | (split at h <;> exact absurd h (by simp))
    | (simp only [Rs.fin, Option.some.injEq, Prod.mk.injEq] at h; exact h.2.2.symm)
    | (simp at h; done)
theorem efR_end {B : Bd} {g rb : Nat} {w w' : World} {tv rv pv ov kv fr : Value} {S : Ms} {en fp : Int} {v : V} (h : Me B w g tv S en v rv pv ov kv) (hb : rb < B.1) (hg : w.grownBy w' (some rb)) (hend : (en = 0 ∧ fp = S.pc ∧ fr = rv) ∨ (en ≠ 0 ∧ fp = 0 ∧ fr = .slice none 0 0)) (hz : en = 0 → v = zV) :
    EfR w' (.agg #[pv, ov, kv, .int .i64 S.sl, .int .i64 en, .int .i64 v.k, .int .i64 v.n, .string v.s, .int .i64 fp, fr]) (S.ends en v) := by
  have ne : ∀ {u : Value}, (∀ k, u.ownBlock = some k → B.1 ≤ k) → (u.ownBlock = none ∨ u.ownBlock ≠ some rb) := fun hu => ne_of fun k e => by have := hu k e; omega
  have a := (h.rg.kept hg (ne fun k e => (h.rg.lt k e).1)).rw clV
  have b := (h.pu.kept hg (ne fun k e => (h.pu.lt k e).1)).rw clW
  have c := (h.ou.kept hg (ne fun k e => (h.ou.lt k e).1)).rw clV
  have d := (h.ki.kept hg (ne fun k e => (h.ki.lt k e).1)).rw clS
  unfold Ms.ends
  rcases hend with ⟨rfl, rfl, rfl⟩ | ⟨hne, rfl, rfl⟩
  · rw [hz rfl, if_pos rfl]
    exact ⟨_, _, _, _, rfl, b, c, d, a⟩
  · rw [if_neg hne]
    exact ⟨_, _, _, _, rfl, b, c, d, Rw.nil _ _ _⟩

set_option maxRecDepth 100000 in
set_option maxHeartbeats 4000000 in
theorem m_run (v rv tv : Value) (l : List In) (pc : Int) (rg : List V) (T : V → Option V) (w : World) (hI : Ins w v l) (hwf : ∀ x ∈ l, x.wf) (hG : Glob w) (hr : Rw V.cells 3 w rv rg) (hrw : ∀ x ∈ rg, x.wf) (hT : Twf T) (htv : tv = .nilIface ∨ ∃ t s, tv = .iface t s) (hA : ∀ (W0 : World) (d : Nat), w.grownBy W0 none → AskP (W0.heap.size, d) tv T W0) :
    Calls Tryz.prog 5 #[v, .agg #[.int .i64 pc, rv], tv] w fun e w' => RunP e w' (runE T l pc rg) (runX l pc rg) ∧ w.grownBy w' none := by
  obtain ⟨a', c', rfl, h1, h2, h3⟩ := hI
  have hI : Ins w (.slice a' l.length c') l := ⟨a', c', rfl, h1, h2, h3⟩
  have HI3 := hide h3
  have HI := hide hI
  clear h1 h2 h3 hI
  obtain ⟨a, c, rfl, g1, g2, g3⟩ := hr
  have hr : Rw V.cells 3 w (.slice a rg.length c) rg := ⟨a, c, rfl, g1, g2, g3⟩
  have HRg := hide hr
  clear g1 g2 g3 hr
  obtain ⟨E, HE0⟩ : ∃ E, Hid (runE T l pc rg = E) := ⟨_, rfl⟩
  obtain ⟨X, HX0⟩ : ∃ X, Hid (runX l pc rg = X) := ⟨_, rfl⟩
  rw [HE0.out, HX0.out]
  have hga := World.grownBy_alloc w (.cells #[.int .i64 pc, .slice a rg.length c] 25) none
  have hs1 : (w.alloc (.cells #[.int .i64 pc, .slice a rg.length c] 25)).heap.size = w.heap.size + 1 := World.size_alloc _ _
  have hgb := World.grownBy_alloc (w.alloc (.cells #[.int .i64 pc, .slice a rg.length c] 25)) (.cells #[.slice none 0 0, .slice none 0 0, .slice none 0 0, .int .i64 0, .int .i64 0, .int .i64 0, .int .i64 0, .string ⟨#[]⟩, .int .i64 0, .slice none 0 0] 33) none
  have hEb : Eb (World.alloc (World.alloc w (.cells #[.int .i64 pc, .slice a rg.length c] 25)) (.cells #[.slice none 0 0, .slice none 0 0, .slice none 0 0, .int .i64 0, .int .i64 0, .int .i64 0, .int .i64 0, .string ⟨#[]⟩, .int .i64 0, .slice none 0 0] 33)) (w.heap.size + 1) (.slice none 0 0) (.slice none 0 0) (.slice none 0 0) 0 0 ⟨0, 0, ⟨#[]⟩⟩ 0 (.slice none 0 0) := by
    have := heap_alloc_new (w.alloc (.cells #[.int .i64 pc, .slice a rg.length c] 25)) (.cells #[.slice none 0 0, .slice none 0 0, .slice none 0 0, .int .i64 0, .int .i64 0, .int .i64 0, .int .i64 0, .string ⟨#[]⟩, .int .i64 0, .slice none 0 0] 33)
    rw [hs1] at this
    exact this
  have f0 : (w.alloc (.cells #[.int .i64 pc, .slice a rg.length c] 25)).cell? ⟨w.heap.size, 0, none⟩ = some (.int .i64 pc) := by simp
  have f1 : (w.alloc (.cells #[.int .i64 pc, .slice a rg.length c] 25)).cell? ⟨w.heap.size, 1, none⟩ = some (.slice a rg.length c) := by simp
  have f0 := cell_g f0 hgb
  have f1 := cell_g f1 hgb
  have hg02 := grown_up hga hgb
  have hright := m_right _ _ l pc rg (World.alloc (World.alloc w (.cells #[.int .i64 pc, .slice a rg.length c] 25)) (.cells #[.slice none 0 0, .slice none 0 0, .slice none 0 0, .int .i64 0, .int .i64 0, .int .i64 0, .int .i64 0, .string ⟨#[]⟩, .int .i64 0, .slice none 0 0] 33)) (HI.out.keptN hg02) hwf (hG.keptN hg02) (HRg.out.keptN hg02) hrw
  cases hR : rightF l pc rg with
  | false =>
    rw [hR] at hright
    obtain rfl : E = .none 0 := by rw [← HE0.out]; unfold runE; rw [if_neg (by rw [hR]; simp)]
    obtain rfl : X = 4 := by rw [← HX0.out]; unfold runX; rw [if_neg (by rw [hR]; simp)]
    go_enter Tryz.func5, Tryz.ntmps5
    go_wp2_with (go_at_call 8; refine hright.mono ?_; rintro e w3 ⟨rfl, hg3⟩; have hE3 := hEb.kept hg3 (by simp); obtain ⟨y0, y1, y2, y3, y4, y5, y6, y7, y8, y9⟩ := hE3.cs; have yf := hE3.fz; have hP := hE3.set (.slice none 0 0) (.slice none 0 0) (.slice none 0 0) 0 0 ⟨0, 0, ⟨#[]⟩⟩ 0 (.slice none 0 0); dsimp only at hP y5 y6 y7)
    refine bodyPost_ret (results_eb rfl _ _ rfl rfl hP.1) rfl ?_
    exact ⟨⟨_, rfl, efR_none _ 0⟩, grown_new (grown_up hg02 hg3) hP.2 (fun j e => by cases e; omega)⟩
  | true =>
    rw [hR] at hright
    have HBE := hide (beg_ok hR hrw)
    have HE1 : Hid (runM T l 200 (begM pc rg) = E) := by rw [← HE0.out]; show _ = _; unfold runE; rw [if_pos hR]
    obtain rfl : X = 0 := by rw [← HX0.out]; unfold runX; rw [if_pos hR]
    have H6 : Hid (rg.length = 6) := HBE.out.2.k.r6
    have HRg6 : Hid (Rw V.cells 3 w (.slice a 6 c) rg) := by
      have h := HRg.out
      rw [H6.out] at h
      exact h
    rw [H6.out] at hright hEb f0 f1 hga hgb hs1 hg02 ⊢
    clear hR
    go_enter Tryz.func5, Tryz.ntmps5
    go_upto_region 3 with (go_at_call 8; refine hright.mono ?_; rintro e w3 ⟨rfl, hg3⟩)
    have hgw3 := grown_up hg02 hg3
    have hE3 := hEb.kept hg3 (by simp)
    have hrb3 : w.heap.size + 1 < w3.heap.size := hE3.lt
    have f0 := cell_g f0 hg3
    have f1 := cell_g f1 hg3
    have HC : Hid (∀ W0, w3.grownBy W0 none → Calls Tryz.prog 12 #[.slice a 6 c] W0 fun e w' => CloneP W0 rg e w' ∧ W0.grownBy w' none) := fun W0 h => m_clone _ rg W0 (HRg6.out.keptN (grown_up hgw3 h)) H6.out
    have dr := grown_dr w3
    clear hright hEb hg02 hga hgb hs1 hg3
    go_cut [8] from 16 to 22 (fun t8 W4 => ∃ g r cap, t8 = .pointer (some ⟨g, 0, none⟩) ∧ Tb W4 g tv pc (.slice (some ⟨r, 0, none⟩) 6 cap) (.slice none 0 0) (.slice none 0 0) (.slice none 0 0) 0 0 ⟨0, 0, ⟨#[]⟩⟩ 0 (.slice none 0 0) false ∧ OwR V.cells 3 31 W4 w3.heap.size (.slice (some ⟨r, 0, none⟩) 6 cap) rg ∧ w3.heap.size ≤ g ∧ r ≠ g ∧ w3.grownBy W4 none)
    case first =>
      rcases htv with rfl | ⟨ti, sv, rfl⟩
      · skip
        refine wp_region_held_drew (S := fun W0 => w3.grownBy W0 none) (by kernel_rfl) (dr) (fun hHeld => ?_)
        refine take_at (i := 0) (d := 16) (v := ?_) rfl rfl (by kernel_rfl) (by kernel_rfl) (by kernel_rfl) (fun _ _ _ h => h) (Or.inl ⟨by rfl, ?_⟩) (by assumption) ?_
        rotate_left
        · intro W hSW
          try dsimp only at hSW
          have g0 := cell_g f0 hSW
          have g1 := cell_g f1 hSW
          go_simp
          try with_reducible rfl
        try simp only [Act.put, List.setIfInBounds_toArray, List.set_cons_zero, List.set_cons_succ]
        refine take_at (i := 1) (d := 17) (v := ?_) rfl rfl (by kernel_rfl) (by kernel_rfl) (by kernel_rfl) (fun _ _ _ h => h) (Or.inl ⟨by rfl, ?_⟩) (by assumption) ?_
        rotate_left
        · intro W hSW
          try dsimp only at hSW
          have g0 := cell_g f0 hSW
          have g1 := cell_g f1 hSW
          go_simp
          try with_reducible rfl
        try simp only [Act.put, List.setIfInBounds_toArray, List.set_cons_zero, List.set_cons_succ]
        refine take_at (i := 2) (d := 18) (v := ?_) rfl rfl (by kernel_rfl) (by kernel_rfl) (by kernel_rfl) (fun _ _ _ h => h) (Or.inl ⟨by rfl, ?_⟩) (by assumption) ?_
        rotate_left
        · intro W hSW
          try dsimp only at hSW
          have g0 := cell_g f0 hSW
          have g1 := cell_g f1 hSW
          go_simp
          try with_reducible rfl
        try simp only [Act.put, List.setIfInBounds_toArray, List.set_cons_zero, List.set_cons_succ]
        refine take_at (i := 3) (d := 19) (v := ?_) rfl rfl (by kernel_rfl) (by kernel_rfl) (by kernel_rfl) (fun _ _ _ h => h) (Or.inl ⟨by rfl, ?_⟩) (by assumption) ?_
        rotate_left
        · intro W hSW
          try dsimp only at hSW
          have g0 := cell_g f0 hSW
          have g1 := cell_g f1 hSW
          go_simp
          try with_reducible rfl
        try simp only [Act.put, List.setIfInBounds_toArray, List.set_cons_zero, List.set_cons_succ]
        refine take_at (i := 4) (d := 20) (v := ?_) rfl rfl (by kernel_rfl) (by kernel_rfl) (by kernel_rfl) (fun _ _ _ h => h) (Or.inl ⟨by rfl, ?_⟩) (by assumption) ?_
        rotate_left
        · intro W hSW
          try dsimp only at hSW
          have g0 := cell_g f0 hSW
          have g1 := cell_g f1 hSW
          go_simp
          try with_reducible rfl
        try simp only [Act.put, List.setIfInBounds_toArray, List.set_cons_zero, List.set_cons_succ]
        refine wpAnyH_ready (rs := [5, 7]) (by kernel_rfl) (by simp) ?_
        refine AllReadyH.cons rfl (fun K hK => ?_) ?_
        · go_simp
          go_wp2_with (go_at_call 12; refine (HC.out _ dr).mono ?_; rintro e w6 ⟨⟨r, cap, rfl, hO6⟩, hg6⟩)
          have hG6 := grown_up dr hg6
          have hO6 := World.ownsRow.mono hO6 (dr).size
          have hr6 := (OwR.lt hO6 r rfl).1
          have hr7 := (OwR.lt hO6 r rfl).2
          refine hK.out _ _ (hG6) (fun hHeld => ?_)
          clear hK K
          try simp only [Act.put, List.setIfInBounds_toArray, List.set_cons_zero, List.set_cons_succ]
          refine take_at (i := 6) (d := 22) (v := ?_) rfl rfl (by kernel_rfl) (by kernel_rfl) (by kernel_rfl) (fun _ _ _ h => h) (Or.inl ⟨by rfl, ?_⟩) (by assumption) ?_
          rotate_left
          · intro W hSW
            try dsimp only at hSW
            go_simp
            try with_reducible rfl
          try simp only [Act.put, List.setIfInBounds_toArray, List.set_cons_zero, List.set_cons_succ]
          refine wpAnyH_ready (rs := [7]) (by kernel_rfl) (by simp) ?_
          refine AllReadyH.cons rfl (fun K hK => ?_) ?_
          · go_simp
            have hG5 : w3.grownBy (World.alloc w6 (.cells #[.nilIface, .int .i64 0, .slice none 0 0, .slice none 0 0, .slice none 0 0, .slice none 0 0, .int .i64 0, .int .i64 0, .int .i64 0, .int .i64 0, .string ⟨#[]⟩, .int .i64 0, .slice none 0 0, .bool false] 50)) none := grown_up hG6 (World.grownBy_alloc _ _ none)
            refine hK.out _ _ (hG5) (fun hHeld => ?_)
            clear hK K
            try simp only [Act.put, List.setIfInBounds_toArray, List.set_cons_zero, List.set_cons_succ]
            have hT5 : Tb (World.alloc w6 (.cells #[.nilIface, .int .i64 0, .slice none 0 0, .slice none 0 0, .slice none 0 0, .slice none 0 0, .int .i64 0, .int .i64 0, .int .i64 0, .int .i64 0, .string ⟨#[]⟩, .int .i64 0, .slice none 0 0, .bool false] 50)) w6.heap.size .nilIface 0 (.slice none 0 0) (.slice none 0 0) (.slice none 0 0) (.slice none 0 0) 0 0 ⟨0, 0, ⟨#[]⟩⟩ 0 (.slice none 0 0) false := heap_alloc_new _ _
            have hg5 : w3.heap.size ≤ w6.heap.size := hG6.size
            have hO6 := OwR.keptN hO6 (World.grownBy_alloc w6 (.cells #[.nilIface, .int .i64 0, .slice none 0 0, .slice none 0 0, .slice none 0 0, .slice none 0 0, .int .i64 0, .int .i64 0, .int .i64 0, .int .i64 0, .string ⟨#[]⟩, .int .i64 0, .slice none 0 0, .bool false] 50) none)
            have hne : r ≠ w6.heap.size := by omega
            generalize (World.alloc w6 (.cells #[.nilIface, .int .i64 0, .slice none 0 0, .slice none 0 0, .slice none 0 0, .slice none 0 0, .int .i64 0, .int .i64 0, .int .i64 0, .int .i64 0, .string ⟨#[]⟩, .int .i64 0, .slice none 0 0, .bool false] 50)) = W5 at *
            obtain ⟨g, hq5⟩ : ∃ g, w6.heap.size = g := ⟨_, rfl⟩
            have hg5 : w3.heap.size ≤ g := hq5 ▸ hg5
            rw [hq5] at hT5 ⊢
            rw [hq5] at hne
            refine wpAnyH_ready (rs := [8]) (by kernel_rfl) (by simp) ?_
            refine AllReadyH.cons rfl (fun K hK => ?_) ?_
            · have x0 := hT5.c0
              have x1 := hT5.c1
              have x2 := hT5.c2
              have x3 := hT5.c3
              have x4 := hT5.c4
              have x5 := hT5.c5
              have x6 := hT5.c6
              have x7 := hT5.c7
              have x8 := hT5.c8
              have x9 := hT5.c9
              have x10 := hT5.c10
              have x11 := hT5.c11
              have x12 := hT5.c12
              have x13 := hT5.c13
              have xf := hT5.fz
              go_simp
              have hP := tb_all hT5 .nilIface pc (.slice (some ⟨r, 0, none⟩) 6 cap) (.slice none 0 0) (.slice none 0 0) (.slice none 0 0) 0 0 ⟨0, 0, ⟨#[]⟩⟩ 0 (.slice none 0 0) false
              have hG7 := grown_new hG5 hP.2 (fun j e => by cases e; exact hg5)
              refine hK.out _ _ (hG7) (fun hHeld => ?_)
              clear hK K
              try simp only [Act.put, List.setIfInBounds_toArray, List.set_cons_zero, List.set_cons_succ]
              refine wpAnyH_done (by kernel_rfl) ?_ _
              go_wp2_with fail
              go_meet
              exact ⟨g, r, cap, rfl, hP.1, OwR.kept hO6 hP.2 (.inr (fun e => hne (Option.some.inj e))), hg5, hne, hG7⟩
            exact AllReadyH.nil
          exact AllReadyH.nil
        refine AllReadyH.cons rfl (fun K hK => ?_) ?_
        · go_simp
          have hG5 : w3.grownBy (World.drew (World.alloc w3 (.cells #[.nilIface, .int .i64 0, .slice none 0 0, .slice none 0 0, .slice none 0 0, .slice none 0 0, .int .i64 0, .int .i64 0, .int .i64 0, .int .i64 0, .string ⟨#[]⟩, .int .i64 0, .slice none 0 0, .bool false] 50))) none := grown_up (World.grownBy_alloc w3 (.cells #[.nilIface, .int .i64 0, .slice none 0 0, .slice none 0 0, .slice none 0 0, .slice none 0 0, .int .i64 0, .int .i64 0, .int .i64 0, .int .i64 0, .string ⟨#[]⟩, .int .i64 0, .slice none 0 0, .bool false] 50) none) (grown_dr _)
          refine hK.out _ _ (hG5) (fun hHeld => ?_)
          clear hK K
          try simp only [Act.put, List.setIfInBounds_toArray, List.set_cons_zero, List.set_cons_succ]
          have hT5 : Tb (World.drew (World.alloc w3 (.cells #[.nilIface, .int .i64 0, .slice none 0 0, .slice none 0 0, .slice none 0 0, .slice none 0 0, .int .i64 0, .int .i64 0, .int .i64 0, .int .i64 0, .string ⟨#[]⟩, .int .i64 0, .slice none 0 0, .bool false] 50))) w3.heap.size .nilIface 0 (.slice none 0 0) (.slice none 0 0) (.slice none 0 0) (.slice none 0 0) 0 0 ⟨0, 0, ⟨#[]⟩⟩ 0 (.slice none 0 0) false := heap_alloc_new w3 _
          have hg5 : w3.heap.size ≤ w3.heap.size := Nat.le_refl _
          have hsz5 : (World.drew (World.alloc w3 (.cells #[.nilIface, .int .i64 0, .slice none 0 0, .slice none 0 0, .slice none 0 0, .slice none 0 0, .int .i64 0, .int .i64 0, .int .i64 0, .int .i64 0, .string ⟨#[]⟩, .int .i64 0, .slice none 0 0, .bool false] 50))).heap.size = w3.heap.size + 1 := World.size_alloc _ _
          generalize (World.drew (World.alloc w3 (.cells #[.nilIface, .int .i64 0, .slice none 0 0, .slice none 0 0, .slice none 0 0, .slice none 0 0, .int .i64 0, .int .i64 0, .int .i64 0, .int .i64 0, .string ⟨#[]⟩, .int .i64 0, .slice none 0 0, .bool false] 50))) = W5 at *
          obtain ⟨g, hq5⟩ : ∃ g, w3.heap.size = g := ⟨_, rfl⟩
          have hg5 : w3.heap.size ≤ g := hq5 ▸ hg5
          rw [hq5] at hT5 ⊢
          refine wpAnyH_ready (rs := [5]) (by kernel_rfl) (by simp) ?_
          refine AllReadyH.cons rfl (fun K hK => ?_) ?_
          · go_simp
            go_wp2_with (go_at_call 12; refine (HC.out _ hG5).mono ?_; rintro e w6 ⟨⟨r, cap, rfl, hO6⟩, hg6⟩)
            have hG6 := grown_up hG5 hg6
            have hT6 := hT5.kept hg6 (by simp)
            have hOB := fun k e => (OwR.lt hO6 k e).1
            have hO6 := World.ownsRow.mono hO6 (hG5).size
            have hr6 := (OwR.lt hO6 r rfl).1
            have hr7 := (OwR.lt hO6 r rfl).2
            refine hK.out _ _ (hG6) (fun hHeld => ?_)
            clear hK K
            try simp only [Act.put, List.setIfInBounds_toArray, List.set_cons_zero, List.set_cons_succ]
            refine take_at (i := 6) (d := 22) (v := ?_) rfl rfl (by kernel_rfl) (by kernel_rfl) (by kernel_rfl) (fun _ _ _ h => h) (Or.inl ⟨by rfl, ?_⟩) (by assumption) ?_
            rotate_left
            · intro W hSW
              try dsimp only at hSW
              go_simp
              try with_reducible rfl
            try simp only [Act.put, List.setIfInBounds_toArray, List.set_cons_zero, List.set_cons_succ]
            refine wpAnyH_ready (rs := [8]) (by kernel_rfl) (by simp) ?_
            refine AllReadyH.cons rfl (fun K hK => ?_) ?_
            · have hne : r ≠ g := by have := hOB r rfl; omega
              have x0 := hT6.c0
              have x1 := hT6.c1
              have x2 := hT6.c2
              have x3 := hT6.c3
              have x4 := hT6.c4
              have x5 := hT6.c5
              have x6 := hT6.c6
              have x7 := hT6.c7
              have x8 := hT6.c8
              have x9 := hT6.c9
              have x10 := hT6.c10
              have x11 := hT6.c11
              have x12 := hT6.c12
              have x13 := hT6.c13
              have xf := hT6.fz
              go_simp
              have hP := tb_all hT6 .nilIface pc (.slice (some ⟨r, 0, none⟩) 6 cap) (.slice none 0 0) (.slice none 0 0) (.slice none 0 0) 0 0 ⟨0, 0, ⟨#[]⟩⟩ 0 (.slice none 0 0) false
              have hG7 := grown_new hG6 hP.2 (fun j e => by cases e; exact hg5)
              refine hK.out _ _ (hG7) (fun hHeld => ?_)
              clear hK K
              try simp only [Act.put, List.setIfInBounds_toArray, List.set_cons_zero, List.set_cons_succ]
              refine wpAnyH_done (by kernel_rfl) ?_ _
              go_wp2_with fail
              go_meet
              exact ⟨g, r, cap, rfl, hP.1, OwR.kept hO6 hP.2 (.inr (fun e => hne (Option.some.inj e))), hg5, hne, hG7⟩
            exact AllReadyH.nil
          exact AllReadyH.nil
        exact AllReadyH.nil
      · skip
        refine wp_region_held_drew (S := fun W0 => w3.grownBy W0 none) (by kernel_rfl) (dr) (fun hHeld => ?_)
        refine take_at (i := 0) (d := 16) (v := ?_) rfl rfl (by kernel_rfl) (by kernel_rfl) (by kernel_rfl) (fun _ _ _ h => h) (Or.inl ⟨by rfl, ?_⟩) (by assumption) ?_
        rotate_left
        · intro W hSW
          try dsimp only at hSW
          have g0 := cell_g f0 hSW
          have g1 := cell_g f1 hSW
          go_simp
          try with_reducible rfl
        try simp only [Act.put, List.setIfInBounds_toArray, List.set_cons_zero, List.set_cons_succ]
        refine take_at (i := 1) (d := 17) (v := ?_) rfl rfl (by kernel_rfl) (by kernel_rfl) (by kernel_rfl) (fun _ _ _ h => h) (Or.inl ⟨by rfl, ?_⟩) (by assumption) ?_
        rotate_left
        · intro W hSW
          try dsimp only at hSW
          have g0 := cell_g f0 hSW
          have g1 := cell_g f1 hSW
          go_simp
          try with_reducible rfl
        try simp only [Act.put, List.setIfInBounds_toArray, List.set_cons_zero, List.set_cons_succ]
        refine take_at (i := 2) (d := 18) (v := ?_) rfl rfl (by kernel_rfl) (by kernel_rfl) (by kernel_rfl) (fun _ _ _ h => h) (Or.inl ⟨by rfl, ?_⟩) (by assumption) ?_
        rotate_left
        · intro W hSW
          try dsimp only at hSW
          have g0 := cell_g f0 hSW
          have g1 := cell_g f1 hSW
          go_simp
          try with_reducible rfl
        try simp only [Act.put, List.setIfInBounds_toArray, List.set_cons_zero, List.set_cons_succ]
        refine take_at (i := 3) (d := 19) (v := ?_) rfl rfl (by kernel_rfl) (by kernel_rfl) (by kernel_rfl) (fun _ _ _ h => h) (Or.inl ⟨by rfl, ?_⟩) (by assumption) ?_
        rotate_left
        · intro W hSW
          try dsimp only at hSW
          have g0 := cell_g f0 hSW
          have g1 := cell_g f1 hSW
          go_simp
          try with_reducible rfl
        try simp only [Act.put, List.setIfInBounds_toArray, List.set_cons_zero, List.set_cons_succ]
        refine take_at (i := 4) (d := 20) (v := ?_) rfl rfl (by kernel_rfl) (by kernel_rfl) (by kernel_rfl) (fun _ _ _ h => h) (Or.inl ⟨by rfl, ?_⟩) (by assumption) ?_
        rotate_left
        · intro W hSW
          try dsimp only at hSW
          have g0 := cell_g f0 hSW
          have g1 := cell_g f1 hSW
          go_simp
          try with_reducible rfl
        try simp only [Act.put, List.setIfInBounds_toArray, List.set_cons_zero, List.set_cons_succ]
        refine wpAnyH_ready (rs := [5, 7]) (by kernel_rfl) (by simp) ?_
        refine AllReadyH.cons rfl (fun K hK => ?_) ?_
        · go_simp
          go_wp2_with (go_at_call 12; refine (HC.out _ dr).mono ?_; rintro e w6 ⟨⟨r, cap, rfl, hO6⟩, hg6⟩)
          have hG6 := grown_up dr hg6
          have hO6 := World.ownsRow.mono hO6 (dr).size
          have hr6 := (OwR.lt hO6 r rfl).1
          have hr7 := (OwR.lt hO6 r rfl).2
          refine hK.out _ _ (hG6) (fun hHeld => ?_)
          clear hK K
          try simp only [Act.put, List.setIfInBounds_toArray, List.set_cons_zero, List.set_cons_succ]
          refine take_at (i := 6) (d := 22) (v := ?_) rfl rfl (by kernel_rfl) (by kernel_rfl) (by kernel_rfl) (fun _ _ _ h => h) (Or.inl ⟨by rfl, ?_⟩) (by assumption) ?_
          rotate_left
          · intro W hSW
            try dsimp only at hSW
            go_simp
            try with_reducible rfl
          try simp only [Act.put, List.setIfInBounds_toArray, List.set_cons_zero, List.set_cons_succ]
          refine wpAnyH_ready (rs := [7]) (by kernel_rfl) (by simp) ?_
          refine AllReadyH.cons rfl (fun K hK => ?_) ?_
          · go_simp
            have hG5 : w3.grownBy (World.alloc w6 (.cells #[.nilIface, .int .i64 0, .slice none 0 0, .slice none 0 0, .slice none 0 0, .slice none 0 0, .int .i64 0, .int .i64 0, .int .i64 0, .int .i64 0, .string ⟨#[]⟩, .int .i64 0, .slice none 0 0, .bool false] 50)) none := grown_up hG6 (World.grownBy_alloc _ _ none)
            refine hK.out _ _ (hG5) (fun hHeld => ?_)
            clear hK K
            try simp only [Act.put, List.setIfInBounds_toArray, List.set_cons_zero, List.set_cons_succ]
            have hT5 : Tb (World.alloc w6 (.cells #[.nilIface, .int .i64 0, .slice none 0 0, .slice none 0 0, .slice none 0 0, .slice none 0 0, .int .i64 0, .int .i64 0, .int .i64 0, .int .i64 0, .string ⟨#[]⟩, .int .i64 0, .slice none 0 0, .bool false] 50)) w6.heap.size .nilIface 0 (.slice none 0 0) (.slice none 0 0) (.slice none 0 0) (.slice none 0 0) 0 0 ⟨0, 0, ⟨#[]⟩⟩ 0 (.slice none 0 0) false := heap_alloc_new _ _
            have hg5 : w3.heap.size ≤ w6.heap.size := hG6.size
            have hO6 := OwR.keptN hO6 (World.grownBy_alloc w6 (.cells #[.nilIface, .int .i64 0, .slice none 0 0, .slice none 0 0, .slice none 0 0, .slice none 0 0, .int .i64 0, .int .i64 0, .int .i64 0, .int .i64 0, .string ⟨#[]⟩, .int .i64 0, .slice none 0 0, .bool false] 50) none)
            have hne : r ≠ w6.heap.size := by omega
            generalize (World.alloc w6 (.cells #[.nilIface, .int .i64 0, .slice none 0 0, .slice none 0 0, .slice none 0 0, .slice none 0 0, .int .i64 0, .int .i64 0, .int .i64 0, .int .i64 0, .string ⟨#[]⟩, .int .i64 0, .slice none 0 0, .bool false] 50)) = W5 at *
            obtain ⟨g, hq5⟩ : ∃ g, w6.heap.size = g := ⟨_, rfl⟩
            have hg5 : w3.heap.size ≤ g := hq5 ▸ hg5
            rw [hq5] at hT5 ⊢
            rw [hq5] at hne
            refine wpAnyH_ready (rs := [8]) (by kernel_rfl) (by simp) ?_
            refine AllReadyH.cons rfl (fun K hK => ?_) ?_
            · have x0 := hT5.c0
              have x1 := hT5.c1
              have x2 := hT5.c2
              have x3 := hT5.c3
              have x4 := hT5.c4
              have x5 := hT5.c5
              have x6 := hT5.c6
              have x7 := hT5.c7
              have x8 := hT5.c8
              have x9 := hT5.c9
              have x10 := hT5.c10
              have x11 := hT5.c11
              have x12 := hT5.c12
              have x13 := hT5.c13
              have xf := hT5.fz
              go_simp
              have hP := tb_all hT5 (.iface ti sv) pc (.slice (some ⟨r, 0, none⟩) 6 cap) (.slice none 0 0) (.slice none 0 0) (.slice none 0 0) 0 0 ⟨0, 0, ⟨#[]⟩⟩ 0 (.slice none 0 0) false
              have hG7 := grown_new hG5 hP.2 (fun j e => by cases e; exact hg5)
              refine hK.out _ _ (hG7) (fun hHeld => ?_)
              clear hK K
              try simp only [Act.put, List.setIfInBounds_toArray, List.set_cons_zero, List.set_cons_succ]
              refine wpAnyH_done (by kernel_rfl) ?_ _
              go_wp2_with fail
              go_meet
              exact ⟨g, r, cap, rfl, hP.1, OwR.kept hO6 hP.2 (.inr (fun e => hne (Option.some.inj e))), hg5, hne, hG7⟩
            exact AllReadyH.nil
          exact AllReadyH.nil
        refine AllReadyH.cons rfl (fun K hK => ?_) ?_
        · go_simp
          have hG5 : w3.grownBy (World.drew (World.alloc w3 (.cells #[.nilIface, .int .i64 0, .slice none 0 0, .slice none 0 0, .slice none 0 0, .slice none 0 0, .int .i64 0, .int .i64 0, .int .i64 0, .int .i64 0, .string ⟨#[]⟩, .int .i64 0, .slice none 0 0, .bool false] 50))) none := grown_up (World.grownBy_alloc w3 (.cells #[.nilIface, .int .i64 0, .slice none 0 0, .slice none 0 0, .slice none 0 0, .slice none 0 0, .int .i64 0, .int .i64 0, .int .i64 0, .int .i64 0, .string ⟨#[]⟩, .int .i64 0, .slice none 0 0, .bool false] 50) none) (grown_dr _)
          refine hK.out _ _ (hG5) (fun hHeld => ?_)
          clear hK K
          try simp only [Act.put, List.setIfInBounds_toArray, List.set_cons_zero, List.set_cons_succ]
          have hT5 : Tb (World.drew (World.alloc w3 (.cells #[.nilIface, .int .i64 0, .slice none 0 0, .slice none 0 0, .slice none 0 0, .slice none 0 0, .int .i64 0, .int .i64 0, .int .i64 0, .int .i64 0, .string ⟨#[]⟩, .int .i64 0, .slice none 0 0, .bool false] 50))) w3.heap.size .nilIface 0 (.slice none 0 0) (.slice none 0 0) (.slice none 0 0) (.slice none 0 0) 0 0 ⟨0, 0, ⟨#[]⟩⟩ 0 (.slice none 0 0) false := heap_alloc_new w3 _
          have hg5 : w3.heap.size ≤ w3.heap.size := Nat.le_refl _
          have hsz5 : (World.drew (World.alloc w3 (.cells #[.nilIface, .int .i64 0, .slice none 0 0, .slice none 0 0, .slice none 0 0, .slice none 0 0, .int .i64 0, .int .i64 0, .int .i64 0, .int .i64 0, .string ⟨#[]⟩, .int .i64 0, .slice none 0 0, .bool false] 50))).heap.size = w3.heap.size + 1 := World.size_alloc _ _
          generalize (World.drew (World.alloc w3 (.cells #[.nilIface, .int .i64 0, .slice none 0 0, .slice none 0 0, .slice none 0 0, .slice none 0 0, .int .i64 0, .int .i64 0, .int .i64 0, .int .i64 0, .string ⟨#[]⟩, .int .i64 0, .slice none 0 0, .bool false] 50))) = W5 at *
          obtain ⟨g, hq5⟩ : ∃ g, w3.heap.size = g := ⟨_, rfl⟩
          have hg5 : w3.heap.size ≤ g := hq5 ▸ hg5
          rw [hq5] at hT5 ⊢
          refine wpAnyH_ready (rs := [5]) (by kernel_rfl) (by simp) ?_
          refine AllReadyH.cons rfl (fun K hK => ?_) ?_
          · go_simp
            go_wp2_with (go_at_call 12; refine (HC.out _ hG5).mono ?_; rintro e w6 ⟨⟨r, cap, rfl, hO6⟩, hg6⟩)
            have hG6 := grown_up hG5 hg6
            have hT6 := hT5.kept hg6 (by simp)
            have hOB := fun k e => (OwR.lt hO6 k e).1
            have hO6 := World.ownsRow.mono hO6 (hG5).size
            have hr6 := (OwR.lt hO6 r rfl).1
            have hr7 := (OwR.lt hO6 r rfl).2
            refine hK.out _ _ (hG6) (fun hHeld => ?_)
            clear hK K
            try simp only [Act.put, List.setIfInBounds_toArray, List.set_cons_zero, List.set_cons_succ]
            refine take_at (i := 6) (d := 22) (v := ?_) rfl rfl (by kernel_rfl) (by kernel_rfl) (by kernel_rfl) (fun _ _ _ h => h) (Or.inl ⟨by rfl, ?_⟩) (by assumption) ?_
            rotate_left
            · intro W hSW
              try dsimp only at hSW
              go_simp
              try with_reducible rfl
            try simp only [Act.put, List.setIfInBounds_toArray, List.set_cons_zero, List.set_cons_succ]
            refine wpAnyH_ready (rs := [8]) (by kernel_rfl) (by simp) ?_
            refine AllReadyH.cons rfl (fun K hK => ?_) ?_
            · have hne : r ≠ g := by have := hOB r rfl; omega
              have x0 := hT6.c0
              have x1 := hT6.c1
              have x2 := hT6.c2
              have x3 := hT6.c3
              have x4 := hT6.c4
              have x5 := hT6.c5
              have x6 := hT6.c6
              have x7 := hT6.c7
              have x8 := hT6.c8
              have x9 := hT6.c9
              have x10 := hT6.c10
              have x11 := hT6.c11
              have x12 := hT6.c12
              have x13 := hT6.c13
              have xf := hT6.fz
              go_simp
              have hP := tb_all hT6 (.iface ti sv) pc (.slice (some ⟨r, 0, none⟩) 6 cap) (.slice none 0 0) (.slice none 0 0) (.slice none 0 0) 0 0 ⟨0, 0, ⟨#[]⟩⟩ 0 (.slice none 0 0) false
              have hG7 := grown_new hG6 hP.2 (fun j e => by cases e; exact hg5)
              refine hK.out _ _ (hG7) (fun hHeld => ?_)
              clear hK K
              try simp only [Act.put, List.setIfInBounds_toArray, List.set_cons_zero, List.set_cons_succ]
              refine wpAnyH_done (by kernel_rfl) ?_ _
              go_wp2_with fail
              go_meet
              exact ⟨g, r, cap, rfl, hP.1, OwR.kept hO6 hP.2 (.inr (fun e => hne (Option.some.inj e))), hg5, hne, hG7⟩
            exact AllReadyH.nil
          exact AllReadyH.nil
        exact AllReadyH.nil
    case rest =>
      obtain ⟨g, r, cap, rfl, hT4, hO4, hg4, hne, hG4⟩ := hcut
      have hd := World.grownBy_alloc wc (.cells #[.nilFunc, .func (.func 23) #[] #[], .func (.func 24) #[] #[], .func (.func 25) #[] #[], .func (.func 26) #[] #[], .func (.func 27) #[] #[], .func (.func 28) #[] #[], .func (.func 29) #[] #[], .func (.func 30) #[] #[], .func (.func 31) #[] #[], .func (.func 32) #[] #[], .func (.func 33) #[] #[], .func (.func 34) #[] #[], .func (.func 35) #[] #[], .func (.func 36) #[] #[], .func (.func 37) #[] #[], .func (.func 38) #[] #[], .func (.func 39) #[] #[], .func (.func 40) #[] #[], .func (.func 41) #[] #[]] 53) none
      have hT5 := hT4.kept hd (by simp)
      have hO5 := hO4.keptN hd
      have hG5 := grown_up hG4 hd
      have hgl := hT4.lt
      have hrl := (hO4.lt r rfl).2
      have hrb := (hO4.lt r rfl).1
      have hsd : (wc.alloc (.cells #[.nilFunc, .func (.func 23) #[] #[], .func (.func 24) #[] #[], .func (.func 25) #[] #[], .func (.func 26) #[] #[], .func (.func 27) #[] #[], .func (.func 28) #[] #[], .func (.func 29) #[] #[], .func (.func 30) #[] #[], .func (.func 31) #[] #[], .func (.func 32) #[] #[], .func (.func 33) #[] #[], .func (.func 34) #[] #[], .func (.func 35) #[] #[], .func (.func 36) #[] #[], .func (.func 37) #[] #[], .func (.func 38) #[] #[], .func (.func 39) #[] #[], .func (.func 40) #[] #[], .func (.func 41) #[] #[]] 53)).heap.size = wc.heap.size + 1 := World.size_alloc _ _
      have Hdc := hide (fun (op : Int) h1 h2 => deeds_cell wc op h1 h2 wc.heap.size rfl)
      go_upto_region 5 with (go_at_call 13; refine (m_deeds _).mono ?_; rintro e w5 ⟨rfl, hw5⟩; have hw5 := hw5.symm; subst hw5)
      generalize wc.alloc (.cells #[.nilFunc, .func (.func 23) #[] #[], .func (.func 24) #[] #[], .func (.func 25) #[] #[], .func (.func 26) #[] #[], .func (.func 27) #[] #[], .func (.func 28) #[] #[], .func (.func 29) #[] #[], .func (.func 30) #[] #[], .func (.func 31) #[] #[], .func (.func 32) #[] #[], .func (.func 33) #[] #[], .func (.func 34) #[] #[], .func (.func 35) #[] #[], .func (.func 36) #[] #[], .func (.func 37) #[] #[], .func (.func 38) #[] #[], .func (.func 39) #[] #[], .func (.func 40) #[] #[], .func (.func 41) #[] #[]] 53) = W5 at *
      obtain ⟨d, hdd⟩ : ∃ d, wc.heap.size = d := ⟨_, rfl⟩
      rw [hdd] at hgl hrl hsd Hdc ⊢
      obtain ⟨B, hB⟩ : ∃ B : Bd, B = (w3.heap.size, d) := ⟨_, rfl⟩
      have hB1 : B.1 = w3.heap.size := by rw [hB]
      have hB2 : B.2 = d := by rw [hB]
      have hB3 : w.heap.size + 1 < B.1 := by omega
      have nrb : ¬ Bk B (w.heap.size + 1) := fun h => by have := h.1; omega
      have nd : ¬ Bk B d := fun h => h.2 hB2.symm
      have hnd : ∀ k, ((Value.slice (some ⟨r, 0, none⟩) 6 cap).ownBlock = some k ∨ (Value.slice none 0 0).ownBlock = some k ∨ (Value.slice none 0 0).ownBlock = some k ∨ (Value.slice none 0 0).ownBlock = some k) → k ≠ B.2 := by
        intro k hk
        rcases hk with hk | hk | hk | hk
        · have : r = k := Option.some.inj hk
          omega
        all_goals exact absurd hk (by simp [Value.ownBlock])
      have hap : Ap g (.slice (some ⟨r, 0, none⟩) 6 cap) (.slice none 0 0) (.slice none 0 0) (.slice none 0 0) := by
        refine ⟨fun k hk => ?_, fun k hk => ?_, fun k hk => ?_, fun k hk => ?_⟩
        · have : r = k := Option.some.inj hk
          exact ⟨by omega, by simp [Value.ownBlock], by simp [Value.ownBlock], by simp [Value.ownBlock]⟩
        all_goals exact absurd hk (by simp [Value.ownBlock])
      have hM5 : Mb B W5 g tv (begM pc rg) (.slice (some ⟨r, 0, none⟩) 6 cap) (.slice none 0 0) (.slice none 0 0) (.slice none 0 0) :=
        ⟨hT5, ⟨by omega, by omega⟩, by omega, hnd, by rw [hB1]; exact hO5, OwR.nil, OwR.nil, OwR.nil, hap⟩
      have hK35 : Kp (Bk B) w3 W5 := kp_n hG5
      have HEb : Hid (Eb W5 (w.heap.size + 1) (.slice none 0 0) (.slice none 0 0) (.slice none 0 0) 0 0 ⟨0, 0, ⟨#[]⟩⟩ 0 (.slice none 0 0)) := hE3.kept hG5 (by simp)
      have HA : Hid (AskP B tv T w3) := by rw [hB]; exact hA w3 d hgw3
      have hgw5 := grown_up hgw3 hG5
      have HM5 := hide hM5
      clear hM5 hT5 hO5 hT4 hO4 hA f0 f1 HC dr hE3 hG hd hG4
      go_wp2_with fail
      go_loopw [24] (fun t wr => ∃ (n : Nat) (S : Ms) (rv pv ov kv : Value), n ≤ 200 ∧ t = .int .i64 n ∧ Mb B wr g tv S rv pv ov kv ∧ Hid (S.ok l) ∧ Hid (Kp (Bk B) W5 wr) ∧ Hid (runM T l (200 - n) S = E)) (fun t _ => 200 - (intOf t).toNat)
      case atStart => exact ⟨0, begM pc rg, _, _, _, _, by omega, rfl, HM5.out, HBE.out.2, Kp.refl _ _, HE1⟩
      case round =>
        obtain ⟨n, S, rv, pv, ov, kv, hn, rfl, hM, HS, HK, HE⟩ := hrel
        by_cases hlt : n < 200
        · have hni : (n : Int) < 200 := by omega
          obtain ⟨p, hp⟩ : ∃ p : Nat, S.pc = (p : Int) := nat_of HS.out.p0
          have hpl : p < l.length := by have := HS.out.p1; omega
          have hpi : (p : Int) < (l.length : Int) := by omega
          have t1 : wr.cell? ⟨g, 1, none⟩ = some (.int .i64 (p : Int)) := by rw [← hp]; exact hM.tb.c1
          obtain ⟨b, off, rfl, hb, hcb⟩ := HI3.out p hpl
          have hcs : ∀ k u, (In.cells l[p])[k]? = some u → wr.cell? ⟨b, off + p * 7 + k, none⟩ = some u := fun k u hu => HK.out.cell (cell_g (hcb k u hu) hgw5) (fun h => by have := h.1; have := hgw3.size; omega)
          have Hx : Hid (l.getD S.pc.toNat dI = l[p]) := by rw [hp, Int.toNat_natCast]; exact getD_lt l p dI hpl
          have HO := hide (opd_of HBE.out.1 hwf S.pc HS.out.p0 HS.out.p1)
          rw [Hx.out] at HO
          have i0 : wr.cell? ⟨b, off + p * 7, none⟩ = some (.int .i64 l[p].op) := hcs 0 _ rfl
          have i1 := hcs 1 _ rfl
          have i2 := hcs 2 _ rfl
          have i3 := hcs 3 _ rfl
          have i4 := hcs 4 _ rfl
          have i5 := hcs 5 _ rfl
          have i6 := hcs 6 _ rfl
          obtain ⟨R, HR⟩ : ∃ R, Hid (doS T l S = R) := ⟨_, rfl⟩
          have HOK : Hid (R.okR l) := by rw [← HR.out]; exact doS_ok T hT l HBE.out.1 hwf S HS.out
          have HR0 : Hid (doN T l[p] (S.to (S.pc + 1)) l[p].op.toNat = R) := by
            rw [← HR.out]
            show _ = doS T l S
            unfold doS
            rw [Hx.out]
          clear hcs hcb Hx
          generalize l[p] = x at *
          have hP1 := hM.to ((p : Int) + 1)
          have hgx := World.grownBy_alloc (wr.setCell ⟨g, 1, none⟩ (.int .i64 ((p : Int) + 1))) x.obj none
          unfold In.obj at hgx
          have hbx := Ib.new (wr.setCell ⟨g, 1, none⟩ (.int .i64 ((p : Int) + 1))) x
          have hsz : (wr.setCell ⟨g, 1, none⟩ (.int .i64 ((p : Int) + 1))).heap.size = wr.heap.size := by simp
          rw [hsz] at hbx
          have f1 := hM.tb.fz 1
          have f1' : (wr.alloc (.cells #[.int .i64 x.op, .int .i64 x.a, .int .i64 x.b, .int .i64 x.c, .int .i64 x.v.k, .int .i64 x.v.n, .string x.v.s] 44)).frozen? ⟨g, 1, none⟩ = false := (hM.keptN (World.grownBy_alloc wr _ none)).tb.fz 1
          have t1' := cell_g t1 (World.grownBy_alloc wr (.cells #[.int .i64 x.op, .int .i64 x.a, .int .i64 x.b, .int .i64 x.c, .int .i64 x.v.k, .int .i64 x.v.n, .string x.v.s] 44) none)
          have hw1 : wrap64 ((p : Int) + 1) = (p : Int) + 1 := by unfold wrap64; have := HBE.out.1.l1; omega
          have hgl2 : g < wr.heap.size := hM.lt
          have hK8 := (HK.out.then (kp_of hP1.2 hM.gB)).then (kp_n (B := B) hgx)
          have hM8 := hP1.1.keptN hgx
          have hb8 := hbx
          clear hbx hP1 hsz
          go_upto_region 9 with fail
          generalize (wr.setCell ⟨g, 1, none⟩ (.int .i64 ((p : Int) + 1))).alloc (.cells #[.int .i64 x.op, .int .i64 x.a, .int .i64 x.b, .int .i64 x.c, .int .i64 x.v.k, .int .i64 x.v.n, .string x.v.s] 44) = W8 at *
          clear t1 t1' f1 f1' i0 i1 i2 i3 i4 i5 i6 hgx hM
          obtain ⟨q, hq⟩ : ∃ q, wr.heap.size = q := ⟨_, rfl⟩
          rw [hq] at hb8 ⊢
          obtain ⟨b0, b1, b2, b3, b4, b5, b6⟩ := hb8.cs
          have ho1 := HO.out.o1
          have ho2 := HO.out.o2
          have hi0 : 0 ≤ x.op := by omega
          have hi1 : x.op < 20 := by omega
          have dc := hK8.cell (Hdc.out x.op ho1 ho2) nd
          have HK8 := hide hK8
          have HD : Hid (∀ W0, W8.grownBy W0 none → Calls Tryz.prog (dk x.op.toNat) #[.pointer (some ⟨g, 0, none⟩), .agg #[.int .i64 x.op, .int .i64 x.a, .int .i64 x.b, .int .i64 x.c, .int .i64 x.v.k, .int .i64 x.v.n, .string x.v.s]] W0 fun e w' => DP B W0 g tv R e w') := by
            intro W0 h
            have h := deed_any B g tv rv pv ov kv (S.to ((p : Int) + 1)) T l x S.pc w3 W0 (hM8.keptN h) (HS.out.k.to _) HO.out hT HA.out ((hK35.then HK8.out).then (kp_n h))
            rw [← hp, HR0.out] at h
            exact h
          have hent := dk_enters x.op ho1 ho2
          clear hK8 hM8 hb8 ho1 ho2
          generalize dk x.op.toNat = f at *
          refine wp_region_held_drew (S := fun W0 => Kp (Bk B) W8 W0) (by kernel_rfl) (Kp.drew _ _) (fun hHeld => ?_)
          refine take_at (i := 0) (d := 35) (v := ?_) rfl rfl (by kernel_rfl) (by kernel_rfl) (by kernel_rfl) (fun _ _ _ h => h) (Or.inl ⟨by rfl, ?_⟩) (by assumption) ?_
          rotate_left
          · intro W hSW
            try dsimp only at hSW
            go_simp
            try with_reducible rfl
          try simp only [Act.put, List.setIfInBounds_toArray, List.set_cons_zero, List.set_cons_succ]
          refine take_at (i := 1) (d := 36) (v := ?_) rfl rfl (by kernel_rfl) (by kernel_rfl) (by kernel_rfl) (fun _ _ _ h => h) (Or.inl ⟨by rfl, ?_⟩) (by assumption) ?_
          rotate_left
          · intro W hSW
            try dsimp only at hSW
            go_simp
            try with_reducible rfl
          try simp only [Act.put, List.setIfInBounds_toArray, List.set_cons_zero, List.set_cons_succ]
          refine wpAnyH_ready (rs := [2, 5]) (by kernel_rfl) (by simp) ?_
          refine AllReadyH.cons rfl (fun K hK => ?_) ?_
          · go_simp
            refine hK.out _ _ (Kp.drew _ _) (fun hHeld => ?_)
            clear hK K
            try simp only [Act.put, List.setIfInBounds_toArray, List.set_cons_zero, List.set_cons_succ]
            refine take_at (i := 3) (d := 38) (v := ?_) rfl rfl (by kernel_rfl) (by kernel_rfl) (by kernel_rfl) (fun _ _ _ h => h) (Or.inl ⟨by rfl, ?_⟩) (by assumption) ?_
            rotate_left
            · intro W hSW
              try dsimp only at hSW
              go_simp
              try with_reducible rfl
            try simp only [Act.put, List.setIfInBounds_toArray, List.set_cons_zero, List.set_cons_succ]
            refine take_at (i := 4) (d := 39) (v := ?_) rfl rfl (by kernel_rfl) (by kernel_rfl) (by kernel_rfl) (fun _ _ _ h => h) (Or.inl ⟨by rfl, ?_⟩) (by assumption) ?_
            rotate_left
            · intro W hSW
              try dsimp only at hSW
              have g0 := hSW.cell dc nd
              go_simp
              try with_reducible rfl
            try simp only [Act.put, List.setIfInBounds_toArray, List.set_cons_zero, List.set_cons_succ]
            refine wpAnyH_ready (rs := [5]) (by kernel_rfl) (by simp) ?_
            refine AllReadyH.cons rfl (fun K hK => ?_) ?_
            · go_simp
              refine hK.out _ _ (Kp.drew _ _) (fun hHeld => ?_)
              clear hK K
              try simp only [Act.put, List.setIfInBounds_toArray, List.set_cons_zero, List.set_cons_succ]
              refine wpAnyH_ready (rs := [6]) (by kernel_rfl) (by simp) ?_
              refine AllReadyH.cons rfl (fun K hK => ?_) ?_
              · go_simp
                go_wp2_with (refine (HD.out _ (grown_dr W8)).mono ?_; rintro e w9 hD; obtain ⟨bb, rfl, hR, hk⟩ := hD)
                refine hK.out _ _ ((Kp.drew _ _).then hk) (fun hHeld => ?_)
                clear hK K
                try simp only [Act.put, List.setIfInBounds_toArray, List.set_cons_zero, List.set_cons_succ]
                refine take_at (i := 7) (d := 42) (v := ?_) rfl rfl (by kernel_rfl) (by kernel_rfl) (by kernel_rfl) (fun _ _ _ h => h) (Or.inl ⟨by rfl, ?_⟩) (by assumption) ?_
                rotate_left
                · intro W hSW
                  try dsimp only at hSW
                  go_simp
                  try with_reducible rfl
                try simp only [Act.put, List.setIfInBounds_toArray, List.set_cons_zero, List.set_cons_succ]
                refine wpAnyH_done (by kernel_rfl) ?_ _
                have hK9 := (HK8.out.then (Kp.drew _ _)).then hk
                clear hk
                rcases R with _ | ⟨S1, _ | ⟨en, y⟩⟩
                · obtain rfl : bb = false := hR
                  obtain rfl : E = .none 3 := by rw [← HE.out, show 200 - n = (199 - n) + 1 by omega]; exact runM_bad HR.out
                  have hE9 := HEb.out.kp hK9 nrb
                  obtain ⟨y0, y1, y2, y3, y4, y5, y6, y7, y8, y9⟩ := hE9.cs
                  have yf := hE9.fz
                  have hP := hE9.set (.slice none 0 0) (.slice none 0 0) (.slice none 0 0) 0 3 ⟨0, 0, ⟨#[]⟩⟩ 0 (.slice none 0 0)
                  dsimp only at hP y5 y6 y7
                  have HK := hide (grown_up hgw3 (kp_from3 hB (hK35.then hK9)))
                  go_wp2
                  refine bodyPost_ret (results_eb rfl _ _ rfl rfl hP.1) rfl ?_
                  exact ⟨⟨_, rfl, efR_none _ 3⟩, grown_new HK.out hP.2 (fun j e => by cases e; omega)⟩
                · obtain ⟨rfl, rv1, pv1, ov1, kv1, hM9⟩ := hR
                  have t13 := hM9.tb.c13
                  have HOK1 : Hid (S1.ok l) := HOK.out
                  have HE1 : Hid (runM T l (200 - (n + 1)) S1 = E) := by
                    show _ = _
                    rw [← HE.out, show 200 - n = (200 - (n + 1)) + 1 by omega]
                    exact (runM_go HR.out).symm
                  have HK9 := hide hK9
                  clear hK9
                  go_wp2
                  go_roundw
                  case rel => exact ⟨n + 1, S1, rv1, pv1, ov1, kv1, by omega, by go_num, hM9, HOK1, HK9.out, HE1⟩
                  case measure => simp [intOf]; omega
                · obtain ⟨rfl, rv1, pv1, ov1, kv1, hM9⟩ := hR
                  obtain ⟨fp, fr, ht, hend⟩ := hM9.tb
                  obtain ⟨pa, pm, pq, rfl⟩ := OwR.sl hM9.pu
                  obtain ⟨oa, om, oq, rfl⟩ := OwR.sl hM9.ou
                  obtain ⟨ka, km, kq, rfl⟩ := OwR.sl hM9.ki
                  obtain ⟨fa, fm, fq, rfl⟩ : ∃ a m c, fr = .slice a m c := by
                    rcases hend with ⟨_, _, rfl⟩ | ⟨_, _, rfl⟩
                    · exact OwR.sl hM9.rg
                    · exact ⟨_, _, _, rfl⟩
                  have t13 := ht.c13
                  have t3 := ht.c3
                  have t4 := ht.c4
                  have t5 := ht.c5
                  have t6 := ht.c6
                  have t7 := ht.c7
                  have t8 := ht.c8
                  have t9 := ht.c9
                  have t10 := ht.c10
                  have t11 := ht.c11
                  have t12 := ht.c12
                  have hE9 := HEb.out.kp hK9 nrb
                  obtain ⟨y0, y1, y2, y3, y4, y5, y6, y7, y8, y9⟩ := hE9.cs
                  have yf := hE9.fz
                  have hP := hE9.set (.slice pa pm pq) (.slice oa om oq) (.slice ka km kq) S1.sl en y fp (.slice fa fm fq)
                  have HK := hide (grown_up hgw3 (kp_from3 hB (hK35.then hK9)))
                  have HE1 : Hid (E = S1.ends en y) := by
                    show _ = _
                    rw [← HE.out, show 200 - n = (199 - n) + 1 by omega]
                    exact runM_fin HR.out
                  have HF := hide (fin0 HR0.out)
                  have HM := hide hM9
                  clear hM9 hK9
                  go_wp2
                  refine bodyPost_ret (results_eb rfl _ _ rfl rfl hP.1) rfl ?_
                  refine ⟨⟨_, rfl, ?_⟩, grown_new HK.out hP.2 (fun j e => by cases e; omega)⟩
                  rw [HE1.out]
                  exact efR_end HM.out hB3 hP.2 hend HF.out
              exact AllReadyH.nil
            exact AllReadyH.nil
          refine AllReadyH.cons rfl (fun K hK => ?_) ?_
          · go_simp
            refine hK.out _ _ (Kp.drew _ _) (fun hHeld => ?_)
            clear hK K
            try simp only [Act.put, List.setIfInBounds_toArray, List.set_cons_zero, List.set_cons_succ]
            refine wpAnyH_ready (rs := [2]) (by kernel_rfl) (by simp) ?_
            refine AllReadyH.cons rfl (fun K hK => ?_) ?_
            · go_simp
              refine hK.out _ _ (Kp.drew _ _) (fun hHeld => ?_)
              clear hK K
              try simp only [Act.put, List.setIfInBounds_toArray, List.set_cons_zero, List.set_cons_succ]
              refine take_at (i := 3) (d := 38) (v := ?_) rfl rfl (by kernel_rfl) (by kernel_rfl) (by kernel_rfl) (fun _ _ _ h => h) (Or.inl ⟨by rfl, ?_⟩) (by assumption) ?_
              rotate_left
              · intro W hSW
                try dsimp only at hSW
                go_simp
                try with_reducible rfl
              try simp only [Act.put, List.setIfInBounds_toArray, List.set_cons_zero, List.set_cons_succ]
              refine take_at (i := 4) (d := 39) (v := ?_) rfl rfl (by kernel_rfl) (by kernel_rfl) (by kernel_rfl) (fun _ _ _ h => h) (Or.inl ⟨by rfl, ?_⟩) (by assumption) ?_
              rotate_left
              · intro W hSW
                try dsimp only at hSW
                have g0 := hSW.cell dc nd
                go_simp
                try with_reducible rfl
              try simp only [Act.put, List.setIfInBounds_toArray, List.set_cons_zero, List.set_cons_succ]
              refine wpAnyH_ready (rs := [6]) (by kernel_rfl) (by simp) ?_
              refine AllReadyH.cons rfl (fun K hK => ?_) ?_
              · go_simp
                go_wp2_with (refine (HD.out _ (grown_dr W8)).mono ?_; rintro e w9 hD; obtain ⟨bb, rfl, hR, hk⟩ := hD)
                refine hK.out _ _ ((Kp.drew _ _).then hk) (fun hHeld => ?_)
                clear hK K
                try simp only [Act.put, List.setIfInBounds_toArray, List.set_cons_zero, List.set_cons_succ]
                refine take_at (i := 7) (d := 42) (v := ?_) rfl rfl (by kernel_rfl) (by kernel_rfl) (by kernel_rfl) (fun _ _ _ h => h) (Or.inl ⟨by rfl, ?_⟩) (by assumption) ?_
                rotate_left
                · intro W hSW
                  try dsimp only at hSW
                  go_simp
                  try with_reducible rfl
                try simp only [Act.put, List.setIfInBounds_toArray, List.set_cons_zero, List.set_cons_succ]
                refine wpAnyH_done (by kernel_rfl) ?_ _
                have hK9 := (HK8.out.then (Kp.drew _ _)).then hk
                clear hk
                rcases R with _ | ⟨S1, _ | ⟨en, y⟩⟩
                · obtain rfl : bb = false := hR
                  obtain rfl : E = .none 3 := by rw [← HE.out, show 200 - n = (199 - n) + 1 by omega]; exact runM_bad HR.out
                  have hE9 := HEb.out.kp hK9 nrb
                  obtain ⟨y0, y1, y2, y3, y4, y5, y6, y7, y8, y9⟩ := hE9.cs
                  have yf := hE9.fz
                  have hP := hE9.set (.slice none 0 0) (.slice none 0 0) (.slice none 0 0) 0 3 ⟨0, 0, ⟨#[]⟩⟩ 0 (.slice none 0 0)
                  dsimp only at hP y5 y6 y7
                  have HK := hide (grown_up hgw3 (kp_from3 hB (hK35.then hK9)))
                  go_wp2
                  refine bodyPost_ret (results_eb rfl _ _ rfl rfl hP.1) rfl ?_
                  exact ⟨⟨_, rfl, efR_none _ 3⟩, grown_new HK.out hP.2 (fun j e => by cases e; omega)⟩
                · obtain ⟨rfl, rv1, pv1, ov1, kv1, hM9⟩ := hR
                  have t13 := hM9.tb.c13
                  have HOK1 : Hid (S1.ok l) := HOK.out
                  have HE1 : Hid (runM T l (200 - (n + 1)) S1 = E) := by
                    show _ = _
                    rw [← HE.out, show 200 - n = (200 - (n + 1)) + 1 by omega]
                    exact (runM_go HR.out).symm
                  have HK9 := hide hK9
                  clear hK9
                  go_wp2
                  go_roundw
                  case rel => exact ⟨n + 1, S1, rv1, pv1, ov1, kv1, by omega, by go_num, hM9, HOK1, HK9.out, HE1⟩
                  case measure => simp [intOf]; omega
                · obtain ⟨rfl, rv1, pv1, ov1, kv1, hM9⟩ := hR
                  obtain ⟨fp, fr, ht, hend⟩ := hM9.tb
                  obtain ⟨pa, pm, pq, rfl⟩ := OwR.sl hM9.pu
                  obtain ⟨oa, om, oq, rfl⟩ := OwR.sl hM9.ou
                  obtain ⟨ka, km, kq, rfl⟩ := OwR.sl hM9.ki
                  obtain ⟨fa, fm, fq, rfl⟩ : ∃ a m c, fr = .slice a m c := by
                    rcases hend with ⟨_, _, rfl⟩ | ⟨_, _, rfl⟩
                    · exact OwR.sl hM9.rg
                    · exact ⟨_, _, _, rfl⟩
                  have t13 := ht.c13
                  have t3 := ht.c3
                  have t4 := ht.c4
                  have t5 := ht.c5
                  have t6 := ht.c6
                  have t7 := ht.c7
                  have t8 := ht.c8
                  have t9 := ht.c9
                  have t10 := ht.c10
                  have t11 := ht.c11
                  have t12 := ht.c12
                  have hE9 := HEb.out.kp hK9 nrb
                  obtain ⟨y0, y1, y2, y3, y4, y5, y6, y7, y8, y9⟩ := hE9.cs
                  have yf := hE9.fz
                  have hP := hE9.set (.slice pa pm pq) (.slice oa om oq) (.slice ka km kq) S1.sl en y fp (.slice fa fm fq)
                  have HK := hide (grown_up hgw3 (kp_from3 hB (hK35.then hK9)))
                  have HE1 : Hid (E = S1.ends en y) := by
                    show _ = _
                    rw [← HE.out, show 200 - n = (199 - n) + 1 by omega]
                    exact runM_fin HR.out
                  have HF := hide (fin0 HR0.out)
                  have HM := hide hM9
                  clear hM9 hK9
                  go_wp2
                  refine bodyPost_ret (results_eb rfl _ _ rfl rfl hP.1) rfl ?_
                  refine ⟨⟨_, rfl, ?_⟩, grown_new HK.out hP.2 (fun j e => by cases e; omega)⟩
                  rw [HE1.out]
                  exact efR_end HM.out hB3 hP.2 hend HF.out
              exact AllReadyH.nil
            exact AllReadyH.nil
          exact AllReadyH.nil
        · obtain rfl : n = 200 := by omega
          have hK9 := HK.out
          obtain rfl : E = .none 3 := HE.out.symm
          have hE9 := HEb.out.kp hK9 nrb
          obtain ⟨y0, y1, y2, y3, y4, y5, y6, y7, y8, y9⟩ := hE9.cs
          have yf := hE9.fz
          have hP := hE9.set (.slice none 0 0) (.slice none 0 0) (.slice none 0 0) 0 3 ⟨0, 0, ⟨#[]⟩⟩ 0 (.slice none 0 0)
          dsimp only at hP y5 y6 y7
          have HK := hide (grown_up hgw3 (kp_from3 hB (hK35.then hK9)))
          go_wp2
          refine bodyPost_ret (results_eb rfl _ _ rfl rfl hP.1) rfl ?_
          exact ⟨⟨_, rfl, efR_none _ 3⟩, grown_new HK.out hP.2 (fun j e => by cases e; omega)⟩

end Go.Proofs.YtpoahegccjgnjaaGreatDoor
