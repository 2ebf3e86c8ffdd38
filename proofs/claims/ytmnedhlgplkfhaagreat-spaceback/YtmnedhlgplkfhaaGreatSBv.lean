/- What the laws of package space do with both pieces of work: a read of the cache, the first steps of a list. Conditions: those that each theorem states. -/
import Derived.Test.YtmnedhlgplkfhaaGreatSBg
import Derived.Test.YtmnedhlgplkfhaaGreatSOpen
namespace Go.Proofs.YtmnedhlgplkfhaaGreat
open Go.RowKit
set_option linter.unusedVariables false

section
variable {w0 w w' : World} {own0 own : Nat → Nat} {x : Nat} {q : Cq} {B tW tR : Nat} {SW SR : Sw} {QC QP : List ByteArray} {r rr : Nat}
theorem Bx.cread (h : Bx w0 own0 w x q B tW tR SW SR QC QP r rr) (ht : tW ≤ 1000) (i : Nat) (hi : i < QC.length) : Calls Tryz.prog 19 #[.pointer (some ⟨q.c, 0, none⟩), .int .i64 (i : Int)] w fun e w' => e = .returned (.tuple #[.string QC[i], .int .i64 0]) ∧ Bx w0 own0 w' x q B (tW + 1) tR SW SR QC QP r rr := by
  obtain ⟨own, hB, ho, hk⟩ := h
  obtain ⟨D, M, cm, s, c1, c2, c3, c4, c5⟩ := hB.C
  have hrd := (Cz.refl c1).read (by omega) (i : Int)
  have hin : inR q.n (i : Int) = true := inR_iff.2 ⟨by omega, by have := hB.n.1; omega⟩
  have er1 : rdCS q.n (pgF QC) (i : Int) = QC[i] := by unfold rdCS; rw [if_pos hin, Int.toNat_natCast, pgF_at QC i hi]
  have er2 : rdCE q.n (i : Int) = 0 := by unfold rdCE; rw [if_pos hin]
  rw [er1, er2] at hrd
  refine hrd.mono ?_
  rintro e w' ⟨rfl, F'', s'', a1, a2, a3, a4⟩
  have a5 := a1.more (n' := 160) (by omega)
  obtain ⟨own', b1, bo, _⟩ := hB.putC a5 c2 c3 c4 c5
  exact ⟨rfl, Bx.next ho hk b1 bo (a5.k.mono (fun k _ e => by omega))⟩
/-- The document's pages, as they lie. -/
theorem Bx.pages (h : Bx w0 own0 w x q B tW tR SW SR QC QP r rr) : ∃ rp la lc, w.cell? ⟨x, 2, none⟩ = some (.pointer (some ⟨rp, 0, none⟩)) ∧ w.cell? ⟨rp, 0, none⟩ = some (.slice la QP.length lc) ∧ ∀ i (h : i < QP.length), ∃ b off, la = some ⟨b, off, none⟩ ∧ w.cell? ⟨b, off + i, none⟩ = some (.string QP[i]) := by
  obtain ⟨own, hB, ho, hk⟩ := h
  obtain ⟨rp, p1, p2⟩ := hB.P
  obtain ⟨lv, l1, l2⟩ := p2.i
  obtain ⟨la, lc, rfl, _, _, l3⟩ := l2
  refine ⟨rp, la, lc, p1, l1, fun i hi => ?_⟩
  obtain ⟨b, off, h1, _, _, h2⟩ := l3 i hi
  exact ⟨b, off, h1, h2⟩
theorem Bx.l160 (h : Bx w0 own0 w x q B tW tR SW SR QC QP r rr) : SR.now.length ≤ 160 := by
  obtain ⟨own, hB, ho, hk⟩ := h
  obtain ⟨gN, hR⟩ := hB.R
  exact hR.l1
end
theorem chg_len (S : Sw) (h : S.now.length ≤ 160) : (if S.over then [] else chgK S.base S.now S.now.length).length ≤ 1000000 := by
  split
  · exact Nat.zero_le _
  · exact Nat.le_trans (chgK_len _ _ _) (by omega)
/-- The first steps of a list. -/
theorem sops_early {a : Option Addr} {len cap : Nat} {L : List Sop} {w : World} (hB : Sts Sop.cells 3 (fun o _ => o.ok) w.heap.size w (.slice a len cap) L) : ∃ L2 : List Sop, L2.length = min len 200 ∧ L2.length ≤ 200 ∧ len ≤ cap ∧ cap ≤ maxLen ∧ ∀ i (h : i < L2.length), ∃ b off, a = some ⟨b, off, none⟩ ∧ b < w.heap.size ∧ w.cell? ⟨b, off + i * 3, none⟩ = some (.int .i64 L2[i].k) ∧ w.cell? ⟨b, off + i * 3 + 1, none⟩ = some (.int .i64 L2[i].n) ∧ w.cell? ⟨b, off + i * 3 + 2, none⟩ = some (.int .u8 (L2[i].b.toNat : Int)) := by
  obtain ⟨hlen, hcap, hcm⟩ : len = L.length ∧ L.length ≤ cap ∧ cap ≤ maxLen := by
    obtain ⟨a', c', h0, h1, h2, _⟩ := hB
    cases h0
    exact ⟨rfl, h1, h2⟩
  have hT := hB.take (min len 200) (by omega)
  refine ⟨L.take (min len 200), by rw [List.length_take]; omega, by rw [List.length_take]; omega, by omega, hcm, fun i hi => ?_⟩
  obtain ⟨a', c', h0, _, _, hcs⟩ := hT
  injection h0 with h01 h02 h03
  subst h01
  obtain ⟨b, off, h1, h2, h3, _⟩ := hcs i hi
  exact ⟨b, off, h1, h2, h3 0 _ rfl, h3 1 _ rfl, h3 2 _ rfl⟩

end Go.Proofs.YtmnedhlgplkfhaaGreat
