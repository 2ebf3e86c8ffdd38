/- Two caches side by side, a smaller one and a larger one: a read of each. Conditions: those that each theorem states. -/
import Derived.Test.YtcfhgfelmofgjaaCUse
namespace Go.Proofs.Ytcfhgfelmofgjaa
open Go.RowKit
set_option linter.unusedVariables false

/-- How many may be kept. -/
def fewN (x : Int) : Nat := (x % 18446744073709551616 % 20).toNat
theorem fewN_wrap (x : Int) : Hid (wrap64 ((IntKind.u64.wrap x).tmod 20) = (fewN x : Int)) := by
  show _ = _
  have hu : IntKind.u64.wrap x = x % 18446744073709551616 := by simp [IntKind.wrap, IntKind.bits, IntKind.signed]
  have h0 : 0 ≤ x % 18446744073709551616 := by omega
  rw [hu, Int.tmod_eq_emod_of_nonneg h0]
  unfold wrap64 fewN
  omega
theorem moreN_wrap (x y : Int) : Hid (wrap64 (wrap64 ((IntKind.u64.wrap x).tmod 20) + wrap64 ((IntKind.u64.wrap y).tmod 20)) = ((fewN x + fewN y : Nat) : Int)) := by
  show _ = _
  rw [(fewN_wrap x).out, (fewN_wrap y).out]
  have h1 : fewN x ≤ 19 := by unfold fewN; omega
  have h2 : fewN y ≤ 19 := by unfold fewN; omega
  unfold wrap64
  omega
theorem fewN_le (x y : Int) : fewN x ≤ fewN x + fewN y ∧ fewN x + fewN y ≤ 38 := by unfold fewN; omega
/-- A small cache's state and a large one's. -/
structure Lst (a b : Nat) (s t : St) : Prop where
  ls : Less a b s.K t.K
  hh : s.h ≤ t.h
  sm : s.h + s.m = t.h + t.m
theorem Lst.use {a b : Nat} {s t : St} (h : Lst a b s t) (hab : a ≤ b) (n : Nat) (z : Int) : Lst a b (s.use a n z) (t.use b n z) := by
  have hs := St.sum (sz := a) (n := n) s z
  have ht := St.sum (sz := b) (n := n) t z
  obtain ⟨l1, l2⟩ := h.ls.use hab z
  have h1 := h.hh
  have h2 := h.sm
  refine ⟨?_, ?_, by omega⟩
  · unfold St.use
    by_cases hz : inR n z = true
    · rw [if_pos hz, if_pos hz]
      by_cases k1 : z ∈ s.K
      · rw [if_pos k1, if_pos (l2 k1)]
        exact l1
      · rw [if_neg k1]
        by_cases k2 : z ∈ t.K
        · rw [if_pos k2]; exact l1
        · rw [if_neg k2]; exact l1
    · rw [if_neg hz, if_neg hz]
      exact h.ls
  · unfold St.use
    by_cases hz : inR n z = true
    · rw [if_pos hz, if_pos hz]
      by_cases k1 : z ∈ s.K
      · rw [if_pos k1, if_pos (l2 k1)]
        dsimp only
        omega
      · rw [if_neg k1]
        by_cases k2 : z ∈ t.K
        · rw [if_pos k2]; dsimp only; omega
        · rw [if_neg k2]; exact h1
    · rw [if_neg hz, if_neg hz]
      exact h1
/-- Two caches behind j reads. -/
structure Mo (w wr : World) (qa qb : Cq) (n j : Nat) (s t : St) : Prop where
  ex : ∃ D D' Q F G, Cst wr qa F D Q 0 0 s ∧ Cst wr qb G D' Q 0 0 t ∧ (∀ k, F k → w.heap.size ≤ k ∧ ¬ G k) ∧ (∀ k, G k → w.heap.size ≤ k)
  l : Lst qa.sz qb.sz s t
  ab : qa.sz ≤ qb.sz
  b6 : qb.sz ≤ 64
  na : qa.n = n
  nb : qb.n = n
  lm : s.h + s.m ≤ j
  kp : Kp none' w wr
theorem Mo.keptN {w wr W : World} {qa qb : Cq} {n j : Nat} {s t : St} (H : Mo w wr qa qb n j s t) (hW : Kp none' wr W) : Mo w W qa qb n j s t := by
  obtain ⟨D, D', Q, F, G, h1, h2, h3, h4⟩ := H.ex
  exact ⟨⟨D, D', Q, F, G, Cas.keptN h1 hW, Cas.keptN h2 hW, h3, h4⟩, H.l, H.ab, H.b6, H.na, H.nb, H.lm, H.kp.then hW⟩
theorem mo_read {w wr : World} {qa qb : Cq} {n j : Nat} {s t : St} (z : Int) (H : Mo w wr qa qb n j s t) (hj : j ≤ 1000) :
    Calls Try.prog 9 #[.pointer (some ⟨qa.c, 0, none⟩), .int .i64 z] wr fun e w1 => (∃ X E, e = .returned (.tuple #[.string X, .int .i64 E])) ∧ Kp none' w w1 ∧
      Hid (Calls Try.prog 9 #[.pointer (some ⟨qb.c, 0, none⟩), .int .i64 z] w1 fun e' w2 => (∃ X E, e' = .returned (.tuple #[.string X, .int .i64 E])) ∧ Mo w w2 qa qb n (j + 1) (s.use qa.sz n z) (t.use qb.sz n z)) := by
  obtain ⟨D, D', Q, F, G, hC, hR, h5, h6⟩ := H.ex
  have hC' : Cst wr qa (fun k => F k ∧ k < wr.heap.size) D Q 0 0 s := Cas.mono hC (fun k hk h => ⟨h, hk⟩)
  have hRn : Cst wr qb (fun k => G k ∧ k < wr.heap.size) D' Q 0 0 t := Cas.mono hR (fun k hk h => ⟨h, hk⟩)
  have hlm := H.lm
  have hsm := H.l.sm
  refine (cread_any hC' (by omega) z).mono ?_
  rintro e w1 ⟨rfl, a1, a2⟩
  rw [H.na] at a1
  have hk1 : Kp none' w w1 := H.kp.trans a2 (fun _ _ h => h) (fun k hk h => absurd hk (by have := (h5 k h.1).1; omega))
  have hR1 : Cst w1 qb (fun k => G k ∧ k < wr.heap.size) D' Q 0 0 t := Cas.kept hRn a2 (fun k _ h h' => (h5 k h'.1).2 h.1)
  have a1' : Cst w1 qa (fun k => ((F k ∧ k < wr.heap.size) ∨ wr.heap.size ≤ k) ∧ k < w1.heap.size) D Q 0 0 (s.use qa.sz n z) := Cas.mono a1 (fun k hk h => ⟨h, hk⟩)
  have hws := H.kp.size
  refine ⟨⟨_, _, rfl⟩, hk1, ?_⟩
  show Calls _ _ _ _ _
  refine (cread_any hR1 (by omega) z).mono ?_
  rintro e' w2 ⟨rfl, b1, b2⟩
  rw [H.nb] at b1
  have hne : ∀ k, (((F k ∧ k < wr.heap.size) ∨ wr.heap.size ≤ k) ∧ k < w1.heap.size) → w.heap.size ≤ k ∧ ¬ ((G k ∧ k < wr.heap.size) ∨ w1.heap.size ≤ k) := fun k hk => by
    rcases hk with ⟨h | h, h'⟩
    · refine ⟨(h5 k h.1).1, fun hg => ?_⟩
      rcases hg with hg | hg
      · exact (h5 k h.1).2 hg.1
      · omega
    · refine ⟨by omega, fun hg => ?_⟩
      rcases hg with hg | hg <;> omega
  have hg6 : ∀ k, ((G k ∧ k < wr.heap.size) ∨ w1.heap.size ≤ k) → w.heap.size ≤ k := fun k hk => by
    rcases hk with h | h
    · exact h6 k h.1
    · exact Nat.le_trans hk1.size h
  have hsu := St.sum (sz := qa.sz) (n := n) s z
  have hkw : Kp none' w w2 := hk1.trans b2 (fun _ _ h => h) (fun k hk h => absurd hk (by have := h6 k h.1; omega))
  have hC2 := Cas.kept a1' b2 (fun k _ h h' => (hne k h).2 (.inl h'))
  exact ⟨⟨_, _, rfl⟩, ⟨⟨D, D', Q, _, _, hC2, b1, hne, hg6⟩, H.l.use H.ab n z, H.ab, H.b6, H.na, H.nb, by split at hsu <;> omega, hkw⟩⟩

end Go.Proofs.Ytcfhgfelmofgjaa
