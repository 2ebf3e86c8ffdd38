/- What is kept beside both pieces of work: texts and numbers that nobody turns. Conditions: those that each theorem states. -/
import Derived.Test.YtmnedhlgplkfhaaGreatSBb
namespace Go.Proofs.YtmnedhlgplkfhaaGreat
open Go.RowKit
set_option linter.unusedVariables false

section
variable {w0 w w' : World} {own0 own : Nat → Nat} {x : Nat} {q : Cq} {B tW tR : Nat} {SW SR : Sw} {QC QP : List ByteArray} {r rr : Nat}
/-- Something of nobody's is turned. -/
theorem Bp.keepT {T : Nat → Prop} (h : Bp w own x q B tW tR SW SR QC QP r rr) (hk : Kp T w w') (hT : ∀ k, k < w.heap.size → T k → own k = 0) : Bp w' (grow own w.heap.size 0) x q B tW tR SW SR QC QP r rr := by
  obtain ⟨f1, f2, f3, f4, f5, f6, f7, f8, f9⟩ := h.frame (own' := grow own w.heap.size 0) hk (fun k hk => grow_old hk)
  have hx := h.xo
  have hTx : ¬ T x := fun e => by have := hT x h.lt.1 e; omega
  have g := f1 hTx
  exact ⟨g.1, g.2.1, g.2.2.1, f2 (fun k hk e e2 => by have := hT k hk e2; omega) hTx, g.2.2.2, f6, f3 (fun k hk e e2 => by have := hT k hk e2; omega), f4 (fun k hk e e2 => by have := hT k hk e2; omega), f5 (fun k hk e e2 => by have := hT k hk e2; omega), f7, f8, f9, h.n, h.sz, h.ba, h.nb, h.nt⟩
/-- The texts tx and the numbers l, in blocks that are nobody's. -/
structure Dt (W : World) (own : Nat → Nat) (c c' : Nat) (u v : Value) (tx : List ByteArray) (l : List Int) : Prop where
  hu : Ow Value.string 9 W c u tx
  huo : ∀ k, u.ownBlock = some k → own k = 0
  hv : Ow (Value.int .i64) 3 W c' v l
  hvo : ∀ k, v.ownBlock = some k → own k = 0
  hvc : ∀ k, v.ownBlock = some k → k < c
theorem Dt.bx {c c' : Nat} {u v : Value} {tx : List ByteArray} {l : List Int} (d : Dt w0 own0 c c' u v tx l) (h : Bx w0 own0 w x q B tW tR SW SR QC QP r rr) : ∃ own, Bp w own x q B tW tR SW SR QC QP r rr ∧ Dt w own c c' u v tx l := by
  obtain ⟨own, h1, h2, h3⟩ := h
  exact ⟨own, h1, d.hu.kept h3 (fun k hk e => e (d.huo k hk)), fun k hk => by rw [h2 k (d.hu.lt k hk).2]; exact d.huo k hk, d.hv.kept h3 (fun k hk e => e (d.hvo k hk)), fun k hk => by rw [h2 k (d.hv.lt k hk).2]; exact d.hvo k hk, d.hvc⟩
theorem Bx.cpages (h : Bx w0 own0 w x q B tW tR SW SR QC QP r rr) : Calls Tryz.prog 24 #[.pointer (some ⟨q.c, 0, none⟩)] w fun e w' => e = .returned (.int .i64 (q.n : Int)) ∧ w' = w := by
  obtain ⟨own, hB, _, _⟩ := h
  obtain ⟨D, M, cm, s, c1, _⟩ := hB.C
  exact cpages_any c1
/-- The first reads of a piece of work. -/
def rds (S : Sw) (k : Nat) : List ByteArray := (List.range k).map (fun i : Nat => (S.read (i : Int)).1)
theorem rds_len (S : Sw) (k : Nat) : (rds S k).length = k := by simp [rds]
theorem rds_succ (S : Sw) (k : Nat) : rds S (k + 1) = rds S k ++ [(S.read (k : Int)).1] := by simp [rds, List.range_succ]
theorem rds_at (S : Sw) (n k : Nat) (h : k < n) : (rds S n)[k]'(by rw [rds_len]; exact h) = (S.read (k : Int)).1 := by simp [rds]
/-- One text more. -/
theorem Dt.more {c c' : Nat} {u v : Value} {S : Sw} {k : Nat} {l : List Int} (d : Dt w own c c' u v (rds S k) l) (h : Bp w own x q B tW tR SW SR QC QP r rr) (hc : c ≤ w.heap.size) (hk : k ≤ 1000) (y : ByteArray) (hy : (S.read (k : Int)).1 = y) :
    ∃ u' W, (Builtin.append_ #[43, 43] 43 #[u, .slice (some ⟨w.heap.size, 0, none⟩) 1 1]).run Tryz.prog (w.alloc (.cells #[.string y] 9)) = .ok u' W ∧ Dt W (grow own w.heap.size 0) c c' u' v (rds S (k + 1)) l ∧ Bp W (grow own w.heap.size 0) x q B tW tR SW SR QC QP r rr ∧ Kp (fun k => u.ownBlock = some k) w W := by
  have ka := Kp.alloc none' w (.cells #[.string y] 9)
  have hs : (w.alloc (.cells #[.string y] 9)).heap.size = w.heap.size + 1 := by simp
  have hsrc := src_cell w 43 9 Tryz.underlying43 (.string y) rfl w.heap.size rfl
  obtain ⟨u', W, h1, h2, h3, h4⟩ := app_own Value.string 43 9 43 _ 16 Tryz.underlying43 infoStr (by rfl) (by omega) (w.alloc (.cells #[.string y] 9)) c u (rds S k) (.slice (some ⟨w.heap.size, 0, none⟩) 1 1) [y] (d.hu.keptN ka) hsrc (by omega) (by rw [rds_len]; simp only [List.length_cons, List.length_nil]; omega)
  have hK : Kp (fun k => u.ownBlock = some k) w W := (ka.mono (fun _ _ h => h.elim)).then (Kp.ofGrown h3 (fun k he _ => he))
  have hub : ∀ k, u'.ownBlock = some k → grow own w.heap.size 0 k = 0 := fun k hk => by
    rcases h4 with e | e
    · have hk' : u.ownBlock = some k := by rw [← e]; exact hk
      rw [grow_old (d.hu.lt k hk').2]
      exact d.huo k hk'
    · rw [e, hs] at hk
      have : w.heap.size + 1 = k := Option.some.inj hk
      exact grow_new (by omega)
  refine ⟨u', W, h1, ⟨by rw [rds_succ, hy]; exact h2, hub, d.hv.kept hK (fun k hk e => ?_), fun k hk => by rw [grow_old (d.hv.lt k hk).2]; exact d.hvo k hk, d.hvc⟩, h.keepT hK (fun k _ e => d.huo k e), hK⟩
  have := d.hvc k hk
  have := (d.hu.lt k e).1
  omega
end
/-- What goes back answers as it did. -/
theorem back_same {S T : Sw} (ho : S.over = false) (h : S.save.From T) : T.backE S.saveN = 0 ∧ Alike (T.back S.saveN) S.save ∧ (T.back S.saveN).base = S.save.base := by
  obtain ⟨h1, h2, h3, h4⟩ := back_from ho h
  have e1 : S.save = { S with notes := S.notes ++ [S.now] } := by unfold Sw.save; rw [ho]; rfl
  exact ⟨h1, ⟨by rw [h2, e1], by rw [h4, e1]; exact ho.symm⟩, by rw [h3, e1]⟩
theorem save_same {S : Sw} (ho : S.over = false) : Alike S.save S := by
  have e1 : S.save = { S with notes := S.notes ++ [S.now] } := by unfold Sw.save; rw [ho]; rfl
  rw [e1]
  exact ⟨rfl, rfl⟩

end Go.Proofs.YtmnedhlgplkfhaaGreat
