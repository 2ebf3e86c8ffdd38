/- A piece of the program's work beside the document's, in memory: which blocks are whose. Conditions: those that each theorem states. -/
import Derived.Test.YtmnedhlgplkfhaaGreatSWb
import Derived.Test.YtmnedhlgplkfhaaGreatSWn
import Derived.Test.YtmnedhlgplkfhaaGreatSWg
import Derived.Test.YtmnedhlgplkfhaaGreatSLv
namespace Go.Proofs.YtmnedhlgplkfhaaGreat
open Go.RowKit
set_option linter.unusedVariables false

theorem Rw.mono {w : World} {r gN : Nat} {G G' : Nat → Prop} {S : Sw} (H : Rw w r gN G S) (hG : ∀ k, k < w.heap.size → G k → G' k) : Rw w r gN G' S := by
  obtain ⟨cN, b1, b2⟩ := H.c1
  obtain ⟨u, us, d1, d2, d3, d4, d5, v, a1, a2⟩ := H.c2
  exact ⟨⟨cN, b1, b2⟩, ⟨u, us, d1, d2, fun k hk => ⟨hG k (d2.lt k hk).2 (d3 k hk).1, (d3 k hk).2⟩, d4, fun i h h' => (d5 i h h').mono (fun k hk h => ⟨hG k hk h.1, h.2⟩), v, a1, a2.mono (fun k hk h => ⟨hG k hk h.1, h.2⟩)⟩, H.c3, H.fr, ⟨hG gN (b2.lt gN rfl).2 H.gg.1, H.gg.2⟩, H.l0, H.l1, H.sz, H.bl, H.nt⟩
theorem Txs.keptL {S T : Nat → Prop} {w w' : World} {v : Value} {l : List ByteArray} (h : Txs S w v l) (hk : Kp T w w') (hS : ∀ k, k < w.heap.size → S k → ¬ T k) : Txs S w' v l := by
  obtain ⟨a, c, rfl, h1, h2, h3⟩ := h
  refine ⟨a, c, rfl, h1, h2, fun i hi => ?_⟩
  obtain ⟨b, off, rfl, hb, hl, c0⟩ := h3 i hi
  exact ⟨b, off, rfl, hb, Nat.lt_of_lt_of_le hl hk.size, hk.cell c0 (hS b hl hb)⟩
theorem Rw.kept {w w' : World} {r gN : Nat} {G T : Nat → Prop} {S : Sw} (H : Rw w r gN G S) (hk : Kp T w w') (hr : ¬ T r) (hT : ∀ k, k < w.heap.size → G k → ¬ T k) : Rw w' r gN G S := by
  obtain ⟨cN, b1, b2⟩ := H.c1
  obtain ⟨u, us, d1, d2, d3, d4, d5, v, a1, a2⟩ := H.c2
  exact ⟨⟨cN, hk.cell b1 hr, b2.kept hk (fun k e => by cases e; exact hT gN (b2.lt gN rfl).2 H.gg.1)⟩, ⟨u, us, hk.cell d1 hr, d2.kept hk (fun k e => hT k (d2.lt k e).2 (d3 k e).1), d3, d4, fun i h h' => (d5 i h h').keptL hk (fun k hk h => hT k hk h.1), v, hk.cell a1 hr, a2.keptL hk (fun k hk h => hT k hk h.1)⟩, hk.cell H.c3 hr, fun j => by rw [hk.frozen H.lt hr]; exact H.fr j, H.gg, H.l0, H.l1, H.sz, H.bl, H.nt⟩
theorem Pgl.keptL {S T : Nat → Prop} {w w' : World} {r : Nat} {Q : List ByteArray} (h : Pgl S w r Q) (hk : Kp T w w') (hS : ∀ k, k < w.heap.size → S k → ¬ T k) : Pgl S w' r Q := by
  obtain ⟨lv, h1, h2⟩ := h.i
  exact ⟨⟨lv, hk.cell h1 (hS r (lt_of_cell h1) h.r), h2.keptL hk hS⟩, h.r⟩
/-- Whose the blocks are: those that are new are i's. -/
def grow (own : Nat → Nat) (s i : Nat) : Nat → Nat := fun k => if k < s then own k else i
theorem grow_old {own : Nat → Nat} {s i k : Nat} (h : k < s) : grow own s i k = own k := if_pos h
theorem grow_new {own : Nat → Nat} {s i k : Nat} (h : s ≤ k) : grow own s i k = i := if_neg (by omega)
/-- Those that are new are the cache's, or nobody's. -/
theorem growF_ex (own : Nat → Nat) (s : Nat) (F : Nat → Prop) : ∃ f : Nat → Nat, (∀ k, k < s → f k = own k) ∧ (∀ k, s ≤ k → F k → f k = 1) ∧ ∀ k, s ≤ k → ¬ F k → f k = 0 := by
  classical
  refine ⟨fun k => if k < s then own k else if F k then 1 else 0, fun k h => if_pos h, fun k h hF => ?_, fun k h hF => ?_⟩
  · show (if k < s then own k else if F k then 1 else 0) = 1
    rw [if_neg (by omega), if_pos hF]
  · show (if k < s then own k else if F k then 1 else 0) = 0
    rw [if_neg (by omega), if_neg hF]
/-- Both: at x; the cache's blocks are 1's, the program's work's 2's, the document's work's 3's, its pages' 4's, x is 5's; what is below B is nobody's. -/
structure Bp (w : World) (own : Nat → Nat) (x : Nat) (q : Cq) (B tW tR : Nat) (SW SR : Sw) (QC QP : List ByteArray) (r rr : Nat) : Prop where
  x0 : w.cell? ⟨x, 0, none⟩ = some (.pointer (some ⟨q.c, 0, none⟩))
  x1 : w.cell? ⟨x, 1, none⟩ = some (.pointer (some ⟨r, 0, none⟩))
  x3 : w.cell? ⟨x, 3, none⟩ = some (.pointer (some ⟨rr, 0, none⟩))
  P : ∃ rp, w.cell? ⟨x, 2, none⟩ = some (.pointer (some ⟨rp, 0, none⟩)) ∧ Pgl (fun k => own k = 4) w rp QP
  xf : ∀ j, w.frozen? ⟨x, j, none⟩ = false
  xo : own x = 5
  C : ∃ (D : Dv) (M cm : Int) (s : St), Cst w q (fun k => own k = 1) D (pgF QC) M cm s ∧ s.h + s.m ≤ 1000 * tW ∧ M ≤ 300 * (tW : Int) ∧ 0 ≤ cm ∧ cm ≤ (tW : Int)
  W : ∃ m, m ≤ 3 * tW ∧ Wk w r (fun k => own k = 2) q.c m SW
  R : ∃ gN, Rw w rr gN (fun k => own k = 3) SR
  ro : own rr = 3
  lo : ∀ k, k < B → own k = 0
  bw : B ≤ w.heap.size
  n : q.n = QC.length ∧ q.n = QP.length ∧ 0 < q.n ∧ q.n ≤ 160
  sz : (∀ y ∈ QC, y.size = 256) ∧ ∀ y ∈ QP, y.size = 256
  ba : SW.over = false → SW.base = QC
  nb : SR.base.length = q.n
  nt : SR.notes.length ≤ tR
section
variable {w w' : World} {own : Nat → Nat} {x : Nat} {q : Cq} {B tW tR : Nat} {SW SR : Sw} {QC QP : List ByteArray} {r rr : Nat}
theorem Bp.lt (h : Bp w own x q B tW tR SW SR QC QP r rr) : x < w.heap.size ∧ rr < w.heap.size := by
  obtain ⟨gN, hR⟩ := h.R
  exact ⟨lt_of_cell h.x0, hR.lt⟩
/-- Nothing of both has turned but what is i's; whose the blocks are is told anew. -/
theorem Bp.frame (h : Bp w own x q B tW tR SW SR QC QP r rr) {own' : Nat → Nat} {T : Nat → Prop} (hk : Kp T w w') (ho : ∀ k, k < w.heap.size → own' k = own k) :
    (¬ T x → w'.cell? ⟨x, 0, none⟩ = some (.pointer (some ⟨q.c, 0, none⟩)) ∧ w'.cell? ⟨x, 1, none⟩ = some (.pointer (some ⟨r, 0, none⟩)) ∧ w'.cell? ⟨x, 3, none⟩ = some (.pointer (some ⟨rr, 0, none⟩)) ∧ ∀ j, w'.frozen? ⟨x, j, none⟩ = false) ∧
    ((∀ k, k < w.heap.size → own k = 4 → ¬ T k) → ¬ T x → ∃ rp, w'.cell? ⟨x, 2, none⟩ = some (.pointer (some ⟨rp, 0, none⟩)) ∧ Pgl (fun k => own' k = 4) w' rp QP) ∧
    ((∀ k, k < w.heap.size → own k = 1 → ¬ T k) → ∃ (D : Dv) (M cm : Int) (s : St), Cst w' q (fun k => own' k = 1) D (pgF QC) M cm s ∧ s.h + s.m ≤ 1000 * tW ∧ M ≤ 300 * (tW : Int) ∧ 0 ≤ cm ∧ cm ≤ (tW : Int)) ∧
    ((∀ k, k < w.heap.size → own k = 2 → ¬ T k) → ∃ m, m ≤ 3 * tW ∧ Wk w' r (fun k => own' k = 2) q.c m SW) ∧
    ((∀ k, k < w.heap.size → own k = 3 → ¬ T k) → ∃ gN, Rw w' rr gN (fun k => own' k = 3) SR) ∧ own' x = 5 ∧ own' rr = 3 ∧ (∀ k, k < B → own' k = 0) ∧ B ≤ w'.heap.size := by
  have hx := h.lt.1
  have hrr := h.lt.2
  refine ⟨fun ht => ⟨hk.cell h.x0 ht, hk.cell h.x1 ht, hk.cell h.x3 ht, fun j => by rw [hk.frozen hx ht]; exact h.xf j⟩, fun h4 ht => ?_, fun h1 => ?_, fun h2 => ?_, fun h3 => ?_, by rw [ho x hx]; exact h.xo, by rw [ho rr hrr]; exact h.ro, fun k hkB => by rw [ho k (Nat.lt_of_lt_of_le hkB h.bw)]; exact h.lo k hkB, Nat.le_trans h.bw hk.size⟩
  · obtain ⟨rp, p1, p2⟩ := h.P
    exact ⟨rp, hk.cell p1 ht, (p2.mono (T := fun k => own' k = 4) (fun k hk' e => by rw [ho k hk']; exact e)).keptL hk (fun k hk' e => h4 k hk' (by rw [← ho k hk']; exact e))⟩
  · obtain ⟨D, M, cm, s, c1, c2⟩ := h.C
    exact ⟨D, M, cm, s, Cas.kept (Cas.mono c1 (fun k hk' e => by rw [ho k hk']; exact e)) hk (fun k hk' e => h1 k hk' (by rw [← ho k hk']; exact e)), c2⟩
  · obtain ⟨m, m1, m2⟩ := h.W
    exact ⟨m, m1, (m2.mono (fun k hk' e => by rw [ho k hk']; exact e) (Nat.le_refl _)).kept hk (fun k hk' e => h2 k hk' (by rw [← ho k hk']; exact e))⟩
  · obtain ⟨gN, g1⟩ := h.R
    exact ⟨gN, (g1.mono (fun k hk' e => by rw [ho k hk']; exact e)).kept hk (h3 rr hrr h.ro) (fun k hk' e => h3 k hk' (by rw [← ho k hk']; exact e))⟩
/-- Something else is made. -/
theorem Bp.keep (h : Bp w own x q B tW tR SW SR QC QP r rr) (hk : Kp none' w w') : Bp w' (grow own w.heap.size 0) x q B tW tR SW SR QC QP r rr := by
  obtain ⟨f1, f2, f3, f4, f5, f6, f7, f8, f9⟩ := h.frame (own' := grow own w.heap.size 0) hk (fun k hk => grow_old hk)
  have g := f1 (fun h => h)
  exact ⟨g.1, g.2.1, g.2.2.1, f2 (fun _ _ _ h => h) (fun h => h), g.2.2.2, f6, f3 (fun _ _ _ h => h), f4 (fun _ _ _ h => h), f5 (fun _ _ _ h => h), f7, f8, f9, h.n, h.sz, h.ba, h.nb, h.nt⟩
/-- A step of the program's work. -/
theorem Bp.putW (h : Bp w own x q B tW tR SW SR QC QP r rr) {SW' : Sw} {m' : Nat} (hW : Wk w' r (fun k => own k = 2 ∨ w.heap.size ≤ k) q.c m' SW') (hm : m' ≤ 3 * (tW + 1)) (hk : Kp (fun k => own k = 2) w w') (hb : SW'.base = SW.base) (ho : SW'.over = SW.over) : Bp w' (grow own w.heap.size 2) x q B (tW + 1) tR SW' SR QC QP r rr := by
  obtain ⟨f1, f2, f3, f4, f5, f6, f7, f8, f9⟩ := h.frame (own' := grow own w.heap.size 2) hk (fun k hk => grow_old hk)
  have hx := h.xo
  have g := f1 (by omega)
  obtain ⟨D, M, cm, s, c1, c2, c3, c4, c5⟩ := f3 (fun k _ e => by omega)
  refine ⟨g.1, g.2.1, g.2.2.1, f2 (fun k _ e => by omega) (by omega), g.2.2.2, f6, ⟨D, M, cm, s, c1, by omega, by omega, c4, by omega⟩, ⟨m', hm, hW.mono (fun k hk' e => ?_) (Nat.le_refl _)⟩, f5 (fun k _ e => by omega), f7, f8, f9, h.n, h.sz, fun e => by rw [hb]; exact h.ba (by rw [← ho]; exact e), h.nb, h.nt⟩
  by_cases hlt : k < w.heap.size
  · rw [grow_old hlt]
    rcases e with e | e
    · exact e
    · omega
  · exact grow_new (by omega)
/-- A step of the document's. -/
theorem Bp.putR (h : Bp w own x q B tW tR SW SR QC QP r rr) {SR' : Sw} {gN : Nat} (hR : Rw w' rr gN (fun k => own k = 3 ∨ w.heap.size ≤ k) SR') (hk : Kp (fun k => own k = 3) w w') (hb : SR'.base = SR.base) (hn : SR'.notes.length ≤ tR + 1) : Bp w' (grow own w.heap.size 3) x q B tW (tR + 1) SW SR' QC QP r rr := by
  obtain ⟨f1, f2, f3, f4, f5, f6, f7, f8, f9⟩ := h.frame (own' := grow own w.heap.size 3) hk (fun k hk => grow_old hk)
  have hx := h.xo
  have g := f1 (by omega)
  refine ⟨g.1, g.2.1, g.2.2.1, f2 (fun k _ e => by omega) (by omega), g.2.2.2, f6, f3 (fun k _ e => by omega), f4 (fun k _ e => by omega), ⟨gN, hR.mono (fun k hk' e => ?_)⟩, f7, f8, f9, h.n, h.sz, h.ba, by rw [hb]; exact h.nb, hn⟩
  by_cases hlt : k < w.heap.size
  · rw [grow_old hlt]
    rcases e with e | e
    · exact e
    · omega
  · exact grow_new (by omega)
theorem Bp.more (h : Bp w own x q B tW tR SW SR QC QP r rr) {tW' tR' : Nat} (h1 : tW ≤ tW') (h2 : tR ≤ tR') : Bp w own x q B tW' tR' SW SR QC QP r rr := by
  obtain ⟨D, M, cm, s, c1, c2, c3, c4, c5⟩ := h.C
  obtain ⟨m, m1, m2⟩ := h.W
  exact ⟨h.x0, h.x1, h.x3, h.P, h.xf, h.xo, ⟨D, M, cm, s, c1, by omega, by omega, c4, by omega⟩, ⟨m, by omega, m2⟩, h.R, h.ro, h.lo, h.bw, h.n, h.sz, h.ba, h.nb, Nat.le_trans h.nt h2⟩
/-- The cache was read. -/
theorem Bp.putC (h : Bp w own x q B tW tR SW SR QC QP r rr) {F' : Nat → Prop} {D : Dv} {M cm : Int} {s s' : St} (hz : Cz w w' q (fun k => own k = 1) F' D (pgF QC) M cm s 160 s') (hs : s.h + s.m ≤ 1000 * tW) (hM : M ≤ 300 * (tW : Int)) (h0 : 0 ≤ cm) (hcm : cm ≤ (tW : Int)) : ∃ own', Bp w' own' x q B (tW + 1) tR SW SR QC QP r rr ∧ (∀ k, k < w.heap.size → own' k = own k) ∧ ∀ k, w.heap.size ≤ k → ¬ F' k → own' k = 0 := by
  obtain ⟨f, g1, g2, g3⟩ := growF_ex own w.heap.size F'
  obtain ⟨f1, f2, f3, f4, f5, f6, f7, f8, f9⟩ := h.frame (own' := f) hz.k g1
  have hx := h.xo
  have g := f1 (by omega)
  obtain ⟨m, m1, m2⟩ := f4 (fun k _ e => by omega)
  have hb := hz.b
  refine ⟨f, ⟨g.1, g.2.1, g.2.2.1, f2 (fun k _ e => by omega) (by omega), g.2.2.2, f6, ⟨D, M, cm, s', Cas.mono hz.c (fun k hk' e => ?_), by omega, by omega, h0, by omega⟩, ⟨m, by omega, m2⟩, f5 (fun k _ e => by omega), f7, f8, f9, h.n, h.sz, h.ba, h.nb, h.nt⟩, g1, g3⟩
  by_cases hlt : k < w.heap.size
  · rw [g1 k hlt]
    rcases hz.f k e with e | e
    · exact e
    · omega
  · exact g2 k (by omega) e
/-- What Changed and Commit ask of the pages. -/
theorem Bp.basis (h : Bp w own x q B tW tR SW SR QC QP r rr) : SW.over = false → q.n = SW.now.length ∧ ∀ i, i < SW.now.length → SW.base.getD i ⟨#[]⟩ = pgF QC i := fun ho => by
  obtain ⟨m, _, hW⟩ := h.W
  have hba := h.ba ho
  rcases hW with ⟨h1, _⟩ | ⟨_, gP, P, NL, _, hA, _⟩
  · rw [ho] at h1; cases h1
  · have hbl := hA.bl
    refine ⟨by rw [← hbl, hba]; exact h.n.1, fun i hi => ?_⟩
    have hi' : i < QC.length := by rw [← hba, hbl]; exact hi
    rw [hba, pgF_at QC i hi', List.getD_eq_getElem?_getD, List.getElem?_eq_getElem hi']
    rfl
/-- A commit of the program's work. -/
theorem Bp.putK (h : Bp w own x q B tW tR SW SR QC QP r rr) {M cm : Int} {s : St} {m : Nat} (hc : Cmt w w' r (fun k => own k = 2 ∧ k < w.heap.size) q (fun k => own k = 1) (pgF QC) M cm s m SW) (hs : s.h + s.m ≤ 1000 * tW) (hM : M ≤ 300 * (tW : Int)) (h0 : 0 ≤ cm) (hcm : cm ≤ (tW : Int)) (hm : m ≤ 3 * tW) :
    ∃ own', Bp w' own' x q B (tW + 1) tR SW.commit SR (SW.pages QC) QP r rr ∧ (∀ k, k < w.heap.size → own' k = own k) ∧ Kp (fun k => own k ≠ 0) w w' := by
  have hbs := h.basis
  obtain ⟨F', s', D', M', c', hW, hC, hf, hk, hb, hM', hc1, hc2⟩ := hc
  obtain ⟨f, g1, g2, g3⟩ := growF_ex own w.heap.size F'
  obtain ⟨f1, f2, f3, f4, f5, f6, f7, f8, f9⟩ := h.frame (own' := f) hk g1
  have hx := h.xo
  have g := f1 (by omega)
  have hQ : (if SW.commitE = 0 then withC (pgF QC) (chgC SW.now (chgs SW.base SW.now)) else pgF QC) = pgF (SW.pages QC) ∧ (SW.pages QC).length = QC.length ∧ (∀ y ∈ SW.pages QC, y.size = 256) ∧ (SW.commit.over = false → SW.commit.base = SW.pages QC) := by
    by_cases hE : SW.commitE = 0
    · have hov : SW.over = false := by
        cases ho : SW.over with
        | false => rfl
        | true => unfold Sw.commitE at hE; rw [ho, if_pos rfl] at hE; exact absurd hE (by decide)
      have hch : SW.changed = chgs SW.base SW.now := by unfold Sw.changed; rw [hov]; rfl
      have hpg : SW.pages QC = Go.Proofs.YtmnedhlgplkfhaaGreat.putK SW.now QC (chgs SW.base SW.now) := by unfold Sw.pages; rw [if_pos hE, hch]; rfl
      have hl := (hbs hov).1
      have hsz : ∀ y ∈ SW.now, y.size = 256 := by
        obtain ⟨m, _, hW⟩ := h.W
        rcases hW with ⟨h1, _⟩ | ⟨_, gP, P, NL, _, hA, _⟩
        · rw [hov] at h1; cases h1
        · exact hA.sz
      rw [if_pos hE, hpg]
      refine ⟨(putK_pgF (by rw [← h.n.1, hl])).symm, putK_len _ _ _, putK_sizes hsz h.sz.1, fun e => ?_⟩
      unfold Sw.commit at e
      rw [if_pos hE] at e
      cases e
    · have hpg : SW.pages QC = QC := by unfold Sw.pages; rw [if_neg hE]
      have hcm : SW.commit = SW := by unfold Sw.commit; rw [if_neg hE]
      rw [if_neg hE, hpg, hcm]
      exact ⟨rfl, rfl, h.sz.1, h.ba⟩
  rw [hQ.1] at hC
  refine ⟨f, ⟨g.1, g.2.1, g.2.2.1, f2 (fun k _ e => by omega) (by omega), g.2.2.2, f6, ⟨D', M', c', s', Cas.mono hC (fun k hk' e => ?_), by omega, by omega, by omega, by omega⟩, ⟨m, by omega, hW.mono (fun k _ e => by rw [g1 k e.2]; exact e.1) (Nat.le_refl _)⟩, f5 (fun k _ e => by omega), f7, f8, f9, ⟨by rw [hQ.2.1]; exact h.n.1, h.n.2⟩, ⟨hQ.2.2.1, h.sz.2⟩, hQ.2.2.2, h.nb, h.nt⟩, g1, hk.mono (fun k _ e => by omega)⟩
  · by_cases hlt : k < w.heap.size
    · rw [g1 k hlt]
      rcases hf k e with e | e
      · exact e
      · omega
    · exact g2 k (by omega) e
end

end Go.Proofs.YtmnedhlgplkfhaaGreat
