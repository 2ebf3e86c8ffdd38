/- Contracts, over the turned program: each step of both pieces of work. Conditions: those that each theorem states. -/
import Derived.Test.YtmnedhlgplkfhaaGreatSBo
namespace Go.Proofs.YtmnedhlgplkfhaaGreat
open Go.RowKit
set_option linter.unusedVariables false

/-- Both, in a world that came of another one by their steps. -/
def Bx (w0 : World) (own0 : Nat → Nat) (w : World) (x : Nat) (q : Cq) (B tW tR : Nat) (SW SR : Sw) (QC QP : List ByteArray) (r rr : Nat) : Prop :=
  ∃ own, Bp w own x q B tW tR SW SR QC QP r rr ∧ (∀ k, k < w0.heap.size → own k = own0 k) ∧ Kp (fun k => own0 k ≠ 0) w0 w
section
variable {w0 w w' : World} {own0 own : Nat → Nat} {x : Nat} {q : Cq} {B tW tR : Nat} {SW SR : Sw} {QC QP : List ByteArray} {r rr : Nat}
theorem Bx.refl (h : Bp w own x q B tW tR SW SR QC QP r rr) : Bx w own w x q B tW tR SW SR QC QP r rr := ⟨own, h, fun _ _ => rfl, Kp.refl _ _⟩
theorem Bx.next {own' : Nat → Nat} {tW' tR' : Nat} {SW' SR' : Sw} {QC' QP' : List ByteArray} {r' rr' : Nat} (ho : ∀ k, k < w0.heap.size → own k = own0 k) (hk : Kp (fun k => own0 k ≠ 0) w0 w) (h' : Bp w' own' x q B tW' tR' SW' SR' QC' QP' r' rr') (ho' : ∀ k, k < w.heap.size → own' k = own k) (hk' : Kp (fun k => own k ≠ 0) w w') : Bx w0 own0 w' x q B tW' tR' SW' SR' QC' QP' r' rr' :=
  ⟨own', h', fun k hk0 => by rw [ho' k (Nat.lt_of_lt_of_le hk0 hk.size), ho k hk0], hk.trans hk' (fun _ _ h => h) (fun k hk0 h => by rw [← ho k hk0]; exact h)⟩
/-- From another beginning. -/
theorem Bx.from_ {w1 : World} {own1 : Nat → Nat} {tW' tR' : Nat} {SW' SR' : Sw} {QC' QP' : List ByteArray} {r' rr' : Nat} (ho : ∀ k, k < w0.heap.size → own1 k = own0 k) (hk : Kp (fun k => own0 k ≠ 0) w0 w1) (h : Bx w1 own1 w' x q B tW' tR' SW' SR' QC' QP' r' rr') : Bx w0 own0 w' x q B tW' tR' SW' SR' QC' QP' r' rr' := by
  obtain ⟨own', h1, h2, h3⟩ := h
  exact Bx.next ho hk h1 h2 h3
theorem Bx.trans {tW' tR' : Nat} {SW' SR' : Sw} {QC' QP' : List ByteArray} {r' rr' : Nat} (h : Bx w0 own0 w x q B tW tR SW SR QC QP r rr) (h' : ∀ own, Bp w own x q B tW tR SW SR QC QP r rr → Bx w own w' x q B tW' tR' SW' SR' QC' QP' r' rr') : Bx w0 own0 w' x q B tW' tR' SW' SR' QC' QP' r' rr' := by
  obtain ⟨own, h1, h2, h3⟩ := h
  exact Bx.from_ h2 h3 (h' own h1)
theorem Bx.keep (h : Bx w0 own0 w x q B tW tR SW SR QC QP r rr) (hk : Kp none' w w') : Bx w0 own0 w' x q B tW tR SW SR QC QP r rr := by
  obtain ⟨own, h1, h2, h3⟩ := h
  exact Bx.next h2 h3 (h1.keep hk) (fun k hk => grow_old hk) (hk.mono (fun _ _ h => h.elim))
theorem Bx.cells (h : Bx w0 own0 w x q B tW tR SW SR QC QP r rr) : w.cell? ⟨x, 0, none⟩ = some (.pointer (some ⟨q.c, 0, none⟩)) ∧ w.cell? ⟨x, 1, none⟩ = some (.pointer (some ⟨r, 0, none⟩)) ∧ w.cell? ⟨x, 3, none⟩ = some (.pointer (some ⟨rr, 0, none⟩)) := by
  obtain ⟨own, h1, _⟩ := h
  exact ⟨h1.x0, h1.x1, h1.x3⟩
/-- What is nobody's stays. -/
theorem Bx.stay (h : Bx w0 own0 w x q B tW tR SW SR QC QP r rr) {b j : Nat} {v : Value} (hb : own0 b = 0) (hc : w0.cell? ⟨b, j, none⟩ = some v) : w.cell? ⟨b, j, none⟩ = some v := by
  obtain ⟨own, _, _, h3⟩ := h
  exact h3.cell hc (fun h => h hb)
theorem Bx.low (h : Bx w0 own0 w x q B tW tR SW SR QC QP r rr) (hl : ∀ k, k < B → own0 k = 0) (w1 : World) (h1 : Kp none' w1 w0) (hB : w1.heap.size ≤ B) : Kp none' w1 w := by
  obtain ⟨own, _, _, h3⟩ := h
  exact h1.trans h3 (fun _ _ h => h) (fun k hk h => h (hl k (Nat.lt_of_lt_of_le hk hB)))
theorem Bx.more {tW' tR' : Nat} (h : Bx w0 own0 w x q B tW tR SW SR QC QP r rr) (h1 : tW ≤ tW') (h2 : tR ≤ tR') : Bx w0 own0 w x q B tW' tR' SW SR QC QP r rr := by
  obtain ⟨own, a, b, c⟩ := h
  exact ⟨own, a.more h1 h2, b, c⟩
theorem Bx.w_ {SW' : Sw} {m' : Nat} (h : Bp w own x q B tW tR SW SR QC QP r rr) (ho : ∀ k, k < w0.heap.size → own k = own0 k) (hk : Kp (fun k => own0 k ≠ 0) w0 w) (hW : Wk w' r (fun k => own k = 2 ∨ w.heap.size ≤ k) q.c m' SW') (hm : m' ≤ 3 * (tW + 1)) (hk' : Kp (fun k => own k = 2) w w') (hb : SW'.base = SW.base) (ho' : SW'.over = SW.over) : Bx w0 own0 w' x q B (tW + 1) tR SW' SR QC QP r rr :=
  Bx.next ho hk (h.putW hW hm hk' hb ho') (fun k hk => grow_old hk) (hk'.mono (fun k _ e => by omega))
theorem Bx.r_ {SR' : Sw} {gN : Nat} (h : Bp w own x q B tW tR SW SR QC QP r rr) (ho : ∀ k, k < w0.heap.size → own k = own0 k) (hk : Kp (fun k => own0 k ≠ 0) w0 w) (hR : Rw w' rr gN (fun k => own k = 3 ∨ w.heap.size ≤ k) SR') (hk' : Kp (fun k => own k = 3) w w') (hb : SR'.base = SR.base) (hn : SR'.notes.length ≤ tR + 1) : Bx w0 own0 w' x q B tW (tR + 1) SW SR' QC QP r rr :=
  Bx.next ho hk (h.putR hR hk' hb hn) (fun k hk => grow_old hk) (hk'.mono (fun k _ e => by omega))
theorem back_bo (s : Sw) (k : Int) : (s.back k).base = s.base ∧ (s.back k).over = s.over ∧ (s.back k).notes.length ≤ s.notes.length := by
  unfold Sw.back
  split
  · exact ⟨rfl, rfl, by show (s.notes.take _).length ≤ _; rw [List.length_take]; omega⟩
  · exact ⟨rfl, rfl, Nat.le_refl _⟩
theorem save_len (s : Sw) : s.save.notes.length ≤ s.notes.length + 1 := by
  unfold Sw.save
  split
  · exact Nat.le_succ _
  · show (s.notes ++ [s.now]).length ≤ _
    simp
theorem write_len (s : Sw) (z : Int) (y : ByteArray) : (s.write z y).notes = s.notes := by unfold Sw.write; split <;> rfl
theorem take_len (s : Sw) (Z : ByteArray) : (s.take Z).notes = s.notes := by
  unfold Sw.take
  split
  · rfl
  · split <;> rfl
theorem drop_len (s : Sw) (z : Int) : (s.drop z).notes = s.notes := by unfold Sw.drop; split <;> rfl
theorem setHead_len (s : Sw) (y : ByteArray) : (s.setHead y).notes = s.notes := by unfold Sw.setHead; split <;> rfl
theorem Bx.read (h : Bx w0 own0 w x q B tW tR SW SR QC QP r rr) (z : Int) : Calls Tryz.prog 25 #[.pointer (some ⟨r, 0, none⟩), .int .i64 z] w fun e w' => e = .returned (.tuple #[.string (SW.read z).1, .int .i64 (SW.read z).2]) ∧ w' = w := by
  obtain ⟨own, hB, _, _⟩ := h
  obtain ⟨m, _, hW⟩ := hB.W
  exact sread_any r z _ q.c m SW w hW
theorem Bx.rread (h : Bx w0 own0 w x q B tW tR SW SR QC QP r rr) (z : Int) : Calls Tryz.prog 34 #[.pointer (some ⟨rr, 0, none⟩), .int .i64 z] w fun e w' => e = .returned (.tuple #[.string (SR.read z).1, .int .i64 (SR.read z).2]) ∧ w' = w := by
  obtain ⟨own, hB, _, _⟩ := h
  obtain ⟨gN, hR⟩ := hB.R
  exact rsread_any rr gN z _ SR w hR
theorem Bx.head (h : Bx w0 own0 w x q B tW tR SW SR QC QP r rr) : Calls Tryz.prog 14 #[.pointer (some ⟨r, 0, none⟩)] w fun e w' => e = .returned (.string SW.head) ∧ w' = w := by
  obtain ⟨own, hB, _, _⟩ := h
  obtain ⟨m, _, hW⟩ := hB.W
  exact shead_any r _ q.c m SW w hW
theorem Bx.rhead (h : Bx w0 own0 w x q B tW tR SW SR QC QP r rr) : Calls Tryz.prog 15 #[.pointer (some ⟨rr, 0, none⟩)] w fun e w' => e = .returned (.string SR.head) ∧ w' = w := by
  obtain ⟨own, hB, _, _⟩ := h
  obtain ⟨gN, hR⟩ := hB.R
  exact rhead_any rr gN _ SR w hR
theorem Bx.used (h : Bx w0 own0 w x q B tW tR SW SR QC QP r rr) : Calls Tryz.prog 12 #[.pointer (some ⟨r, 0, none⟩)] w fun e w' => e = .returned (.int .i64 (SW.usedN : Int)) ∧ w' = w := by
  obtain ⟨own, hB, _, _⟩ := h
  obtain ⟨m, _, hW⟩ := hB.W
  exact susedN_any r _ q.c m SW w hW
theorem Bx.rused (h : Bx w0 own0 w x q B tW tR SW SR QC QP r rr) : Calls Tryz.prog 13 #[.pointer (some ⟨rr, 0, none⟩)] w fun e w' => e = .returned (.int .i64 (SR.usedN : Int)) ∧ w' = w := by
  obtain ⟨own, hB, _, _⟩ := h
  obtain ⟨gN, hR⟩ := hB.R
  exact rused_any rr gN _ SR w hR
theorem Bx.write (h : Bx w0 own0 w x q B tW tR SW SR QC QP r rr) (ht : tW ≤ 1000) (z : Int) (y : ByteArray) (hy : y.size ≤ 1000) : Calls Tryz.prog 28 #[.pointer (some ⟨r, 0, none⟩), .int .i64 z, .string y] w fun e w' => e = .returned (.int .i64 (SW.writeE z y)) ∧ Bx w0 own0 w' x q B (tW + 1) tR (SW.write z y) SR QC QP r rr := by
  obtain ⟨own, hB, ho, hk⟩ := h
  obtain ⟨m, hm, hW⟩ := hB.W
  refine (swrite_any r z y _ q.c m SW w hW (by omega) hy).mono ?_
  rintro e w' ⟨rfl, a1, a2⟩
  exact ⟨rfl, Bx.w_ hB ho hk a1 (by omega) a2 (from_write _ _ _).base (from_write _ _ _).over⟩
theorem Bx.rwrite (h : Bx w0 own0 w x q B tW tR SW SR QC QP r rr) (ht : tR ≤ 900) (z : Int) (y : ByteArray) (hy : y.size ≤ 1000) : Calls Tryz.prog 36 #[.pointer (some ⟨rr, 0, none⟩), .int .i64 z, .string y] w fun e w' => e = .returned (.int .i64 (SR.writeE z y)) ∧ Bx w0 own0 w' x q B tW (tR + 1) SW (SR.write z y) QC QP r rr := by
  obtain ⟨own, hB, ho, hk⟩ := h
  obtain ⟨gN, hR⟩ := hB.R
  refine (rswrite_any rr gN z y _ SR w hR hy).mono ?_
  rintro e w' ⟨rfl, a1, a2⟩
  exact ⟨rfl, Bx.r_ hB ho hk (a1.mono (fun _ _ h => .inl h)) (a2.mono (fun k _ e => by have e' : k = gN := e; rw [e']; exact hR.gg.1)) (from_write _ _ _).base (by rw [write_len]; have := hB.nt; omega)⟩
theorem Bx.take (h : Bx w0 own0 w x q B tW tR SW SR QC QP r rr) (ht : tW ≤ 1000)  : Calls Tryz.prog 27 #[.pointer (some ⟨r, 0, none⟩)] w fun e w' => e = .returned (.tuple #[.int .i64 SW.takeE.1, .int .i64 SW.takeE.2]) ∧ Bx w0 own0 w' x q B (tW + 1) tR (SW.take (fillB 0)) SR QC QP r rr := by
  obtain ⟨own, hB, ho, hk⟩ := h
  obtain ⟨m, hm, hW⟩ := hB.W
  refine (stake_any r _ q.c m SW w hW (by omega)).mono ?_
  rintro e w' ⟨rfl, a1, a2⟩
  exact ⟨rfl, Bx.w_ hB ho hk a1 (by omega) a2 (from_take _ _).base (from_take _ _).over⟩
theorem Bx.rtake (h : Bx w0 own0 w x q B tW tR SW SR QC QP r rr) (ht : tR ≤ 900)  : Calls Tryz.prog 37 #[.pointer (some ⟨rr, 0, none⟩)] w fun e w' => e = .returned (.tuple #[.int .i64 SR.takeE.1, .int .i64 SR.takeE.2]) ∧ Bx w0 own0 w' x q B tW (tR + 1) SW (SR.take (fillB 0)) QC QP r rr := by
  obtain ⟨own, hB, ho, hk⟩ := h
  obtain ⟨gN, hR⟩ := hB.R
  refine (rtake_any rr gN _ SR w hR).mono ?_
  rintro e w' ⟨rfl, a1, a2⟩
  exact ⟨rfl, Bx.r_ hB ho hk (a1.mono (fun _ _ h => .inl h)) (a2.mono (fun k _ e => by have e' : k = gN := e; rw [e']; exact hR.gg.1)) (from_take _ _).base (by rw [take_len]; have := hB.nt; omega)⟩
theorem Bx.drop (h : Bx w0 own0 w x q B tW tR SW SR QC QP r rr) (ht : tW ≤ 1000) (z : Int) : Calls Tryz.prog 29 #[.pointer (some ⟨r, 0, none⟩), .int .i64 z] w fun e w' => e = .returned (.int .i64 (SW.dropE z)) ∧ Bx w0 own0 w' x q B (tW + 1) tR (SW.drop z) SR QC QP r rr := by
  obtain ⟨own, hB, ho, hk⟩ := h
  obtain ⟨m, hm, hW⟩ := hB.W
  refine (sdrop_any r z _ q.c m SW w hW (by omega)).mono ?_
  rintro e w' ⟨rfl, a1, a2⟩
  exact ⟨rfl, Bx.w_ hB ho hk a1 (by omega) a2 (from_drop _ _).base (from_drop _ _).over⟩
theorem Bx.rdrop (h : Bx w0 own0 w x q B tW tR SW SR QC QP r rr) (ht : tR ≤ 900) (z : Int) : Calls Tryz.prog 38 #[.pointer (some ⟨rr, 0, none⟩), .int .i64 z] w fun e w' => e = .returned (.int .i64 (SR.dropE z)) ∧ Bx w0 own0 w' x q B tW (tR + 1) SW (SR.drop z) QC QP r rr := by
  obtain ⟨own, hB, ho, hk⟩ := h
  obtain ⟨gN, hR⟩ := hB.R
  refine (rdrop_any rr gN z _ SR w hR).mono ?_
  rintro e w' ⟨rfl, a1, a2⟩
  exact ⟨rfl, Bx.r_ hB ho hk (a1.mono (fun _ _ h => .inl h)) (a2.mono (fun k _ e => by have e' : k = gN := e; rw [e']; exact hR.gg.1)) (from_drop _ _).base (by rw [drop_len]; have := hB.nt; omega)⟩
theorem Bx.setHead (h : Bx w0 own0 w x q B tW tR SW SR QC QP r rr) (ht : tW ≤ 1000) (y : ByteArray) (hy : y.size ≤ 1000) : Calls Tryz.prog 30 #[.pointer (some ⟨r, 0, none⟩), .string y] w fun e w' => e = .returned (.int .i64 (SW.setHeadE y)) ∧ Bx w0 own0 w' x q B (tW + 1) tR (SW.setHead y) SR QC QP r rr := by
  obtain ⟨own, hB, ho, hk⟩ := h
  obtain ⟨m, hm, hW⟩ := hB.W
  refine (ssetHead_any r y _ q.c m SW w hW (by omega) hy).mono ?_
  rintro e w' ⟨rfl, a1, a2⟩
  exact ⟨rfl, Bx.w_ hB ho hk a1 (by omega) a2 (from_setHead _ _).base (from_setHead _ _).over⟩
theorem Bx.rsetHead (h : Bx w0 own0 w x q B tW tR SW SR QC QP r rr) (ht : tR ≤ 900) (y : ByteArray) (hy : y.size ≤ 1000) : Calls Tryz.prog 39 #[.pointer (some ⟨rr, 0, none⟩), .string y] w fun e w' => e = .returned (.int .i64 (SR.setHeadE y)) ∧ Bx w0 own0 w' x q B tW (tR + 1) SW (SR.setHead y) QC QP r rr := by
  obtain ⟨own, hB, ho, hk⟩ := h
  obtain ⟨gN, hR⟩ := hB.R
  refine (rsetHead_any rr gN y _ SR w hR hy).mono ?_
  rintro e w' ⟨rfl, a1, a2⟩
  exact ⟨rfl, Bx.r_ hB ho hk (a1.mono (fun _ _ h => .inl h)) (a2.mono (fun k _ e => by have e' : k = gN := e; rw [e']; exact hR.gg.1)) (from_setHead _ _).base (by rw [setHead_len]; have := hB.nt; omega)⟩
theorem Bx.save (h : Bx w0 own0 w x q B tW tR SW SR QC QP r rr) (ht : tW ≤ 1000)  : Calls Tryz.prog 23 #[.pointer (some ⟨r, 0, none⟩)] w fun e w' => e = .returned (.int .i64 SW.saveN) ∧ Bx w0 own0 w' x q B (tW + 1) tR (SW.save) SR QC QP r rr := by
  obtain ⟨own, hB, ho, hk⟩ := h
  obtain ⟨m, hm, hW⟩ := hB.W
  refine (ssave_any r _ q.c m SW w hW (by omega)).mono ?_
  rintro e w' ⟨rfl, a1, a2⟩
  exact ⟨rfl, Bx.w_ hB ho hk a1 (by omega) a2 (from_save _).base (from_save _).over⟩
theorem Bx.rsave (h : Bx w0 own0 w x q B tW tR SW SR QC QP r rr) (ht : tR ≤ 900)  : Calls Tryz.prog 40 #[.pointer (some ⟨rr, 0, none⟩)] w fun e w' => e = .returned (.int .i64 SR.saveN) ∧ Bx w0 own0 w' x q B tW (tR + 1) SW (SR.save) QC QP r rr := by
  obtain ⟨own, hB, ho, hk⟩ := h
  obtain ⟨gN, hR⟩ := hB.R
  refine (rsave_any rr gN _ SR w hR (by have := hB.nt; omega)).mono ?_
  rintro e w' ⟨rfl, a1, a2⟩
  exact ⟨rfl, Bx.r_ hB ho hk a1 (a2.mono (fun k _ e => by
    rcases e with e | e
    · rw [e]; exact hB.ro
    · exact e)) (from_save _).base (by have := save_len SR; have := hB.nt; omega)⟩
theorem Bx.back (h : Bx w0 own0 w x q B tW tR SW SR QC QP r rr) (ht : tW ≤ 1000) (z : Int) : Calls Tryz.prog 26 #[.pointer (some ⟨r, 0, none⟩), .int .i64 z] w fun e w' => e = .returned (.int .i64 (SW.backE z)) ∧ Bx w0 own0 w' x q B (tW + 1) tR (SW.back z) SR QC QP r rr := by
  obtain ⟨own, hB, ho, hk⟩ := h
  obtain ⟨m, hm, hW⟩ := hB.W
  refine (sback_any r z _ q.c m SW w hW (by omega)).mono ?_
  rintro e w' ⟨rfl, a1, a2⟩
  exact ⟨rfl, Bx.w_ hB ho hk a1 (by omega) a2 (back_bo SW z).1 (back_bo SW z).2.1⟩
theorem Bx.rback (h : Bx w0 own0 w x q B tW tR SW SR QC QP r rr) (ht : tR ≤ 900) (z : Int) : Calls Tryz.prog 41 #[.pointer (some ⟨rr, 0, none⟩), .int .i64 z] w fun e w' => e = .returned (.int .i64 (SR.backE z)) ∧ Bx w0 own0 w' x q B tW (tR + 1) SW (SR.back z) QC QP r rr := by
  obtain ⟨own, hB, ho, hk⟩ := h
  obtain ⟨gN, hR⟩ := hB.R
  refine (rback_any rr gN z _ SR w hR (by have := hB.nt; omega)).mono ?_
  rintro e w' ⟨rfl, ⟨gN', a1⟩, a2⟩
  exact ⟨rfl, Bx.r_ hB ho hk a1 (a2.mono (fun k _ e => by have e' : k = rr := e; rw [e']; exact hB.ro)) (back_bo SR z).1 (by have := (back_bo SR z).2.2; have := hB.nt; omega)⟩
theorem Bx.commit (h : Bx w0 own0 w x q B tW tR SW SR QC QP r rr) (ht : tW ≤ 1000) : Calls Tryz.prog 31 #[.pointer (some ⟨r, 0, none⟩)] w fun e w' => e = .returned (.int .i64 SW.commitE) ∧ Bx w0 own0 w' x q B (tW + 1) tR SW.commit SR (SW.pages QC) QP r rr := by
  obtain ⟨own, hB, ho, hk⟩ := h
  obtain ⟨m, hm, hW⟩ := hB.W
  obtain ⟨D, M, cm, s, c1, c2, c3, c4, c5⟩ := hB.C
  refine (scommit_any (V := fun k => own k = 2 ∧ k < w.heap.size) (hW.mono (fun k h1 h2 => ⟨h2, h1⟩) (Nat.le_refl _)) c1 (fun k _ e1 e2 => by have := e1.1; omega) hB.basis (by omega) (by omega) c4 (by omega)).mono ?_
  rintro e w' ⟨rfl, a1⟩
  obtain ⟨own', b1, b2, b3⟩ := hB.putK a1 c2 c3 c4 c5 hm
  exact ⟨rfl, Bx.next ho hk b1 b2 b3⟩
theorem Bx.changed (h : Bx w0 own0 w x q B tW tR SW SR QC QP r rr) (ht : tW ≤ 1000) : Calls Tryz.prog 17 #[.pointer (some ⟨r, 0, none⟩)] w fun e w' => ∃ v, e = .returned v ∧ Ow (Value.int .i64) 3 w' w.heap.size v (if SW.over then [] else chgK SW.base SW.now SW.now.length) ∧ Bx w0 own0 w' x q B (tW + 1) tR SW SR QC QP r rr ∧ ∃ own', Bp w' own' x q B (tW + 1) tR SW SR QC QP r rr ∧ (∀ k, k < w0.heap.size → own' k = own0 k) ∧ Kp (fun k => own0 k ≠ 0) w0 w' ∧ ∀ k, v.ownBlock = some k → own' k = 0 := by
  obtain ⟨own, hB, ho, hk⟩ := h
  obtain ⟨m, hm, hW⟩ := hB.W
  obtain ⟨D, M, cm, s, c1, c2, c3, c4, c5⟩ := hB.C
  refine (schanged_any hW c1 (fun k _ e1 e2 => by omega) hB.basis (by omega)).mono ?_
  rintro e w' ⟨v, F', s', rfl, a1, a2, a3⟩
  obtain ⟨own', b1, bo, bn⟩ := hB.putC a2 c2 c3 c4 c5
  have b2 := Bx.next ho hk b1 bo (a2.k.mono (fun k _ e => by omega))
  refine ⟨v, rfl, a1, b2, own', b1, fun k hk0 => by rw [bo k (Nat.lt_of_lt_of_le hk0 hk.size), ho k hk0], hk.trans a2.k (fun _ _ h => h) (fun k hk0 h => by rw [← ho k hk0, h]; omega), fun k hv => bn k (a1.lt k hv).1 (a3 k hv)⟩
theorem Bx.rchanged (h : Bx w0 own0 w x q B tW tR SW SR QC QP r rr) : Calls Tryz.prog 18 #[.pointer (some ⟨rr, 0, none⟩)] w fun e w' => ∃ v, e = .returned v ∧ Ow (Value.int .i64) 3 w' w.heap.size v (if SR.over then [] else chgK SR.base SR.now SR.now.length) ∧ Bx w0 own0 w' x q B tW tR SW SR QC QP r rr ∧ Kp none' w w' := by
  have h' := h
  obtain ⟨own, hB, ho, hk⟩ := h
  obtain ⟨gN, hR⟩ := hB.R
  refine (rchanged_any rr gN _ SR w hR).mono ?_
  rintro e w' ⟨v, rfl, a1, a2⟩
  exact ⟨v, rfl, a1, h'.keep a2, a2⟩
/-- The document's commit: its pages are another block then. -/
theorem Bx.rcommit (h : Bx w0 own0 w x q B tW tR SW SR QC QP r rr) (rp : Nat) (hrp : w.cell? ⟨x, 2, none⟩ = some (.pointer (some ⟨rp, 0, none⟩))) : Calls Tryz.prog 42 #[.pointer (some ⟨rr, 0, none⟩), .pointer (some ⟨rp, 0, none⟩)] w fun e w' => ∃ rp', e = .returned (.tuple #[.pointer (some ⟨rp', 0, none⟩), .int .i64 SR.commitE]) ∧ w'.cell? ⟨x, 2, none⟩ = some (.pointer (some ⟨rp, 0, none⟩)) ∧ w'.frozen? ⟨x, 2, none⟩ = false ∧ Bx w0 own0 (w'.setCell ⟨x, 2, none⟩ (.pointer (some ⟨rp', 0, none⟩))) x q B tW tR SW SR.commit QC (SR.pages QP) r rr := by
  obtain ⟨own, hB, ho, hk⟩ := h
  obtain ⟨gN, hR⟩ := hB.R
  obtain ⟨rp2, p1, p2⟩ := hB.P
  rw [hrp] at p1
  obtain rfl : rp = rp2 := by
    injection p1 with p1
    injection p1 with p1
    injection p1 with p1
    injection p1
  have hlen : QP.length = SR.now.length := by rw [← hB.n.2.1, ← hB.nb]; exact hR.bl
  refine (rcommit_any rr gN rp (fun k => own k = 3 ∧ k < w.heap.size) _ SR QP w (hR.mono (fun k h1 h2 => ⟨h2, h1⟩)) p2 hlen).mono ?_
  rintro e w' ⟨rp', rfl, a1, a2, a3⟩
  have hx := hB.xo
  have hrr := hB.ro
  have hxr : ¬ only rr x := fun e => by have e' : x = rr := e; rw [e', hrr] at hx; omega
  have hc2 := a3.cell hrp hxr
  have hf2 : w'.frozen? ⟨x, 2, none⟩ = false := by rw [a3.frozen hB.lt.1 hxr]; exact hB.xf 2
  refine ⟨rp', rfl, hc2, hf2, ?_⟩
  have pw := Put.set w' x 2 (.pointer (some ⟨rp', 0, none⟩)) _ hc2
  have kA : Kp (fun k => k = rr ∨ k = x) w (w'.setCell ⟨x, 2, none⟩ (.pointer (some ⟨rp', 0, none⟩))) := (a3.mono (fun k _ e => .inl e)).then (pw.kp.mono (fun k _ e => .inr e))
  obtain ⟨f1, f2, f3, f4, f5, f6, f7, f8, f9⟩ := hB.frame (own' := grow own w.heap.size 4) kA (fun k hk => grow_old hk)
  have hQ : (SR.pages QP).length = QP.length ∧ ∀ y ∈ SR.pages QP, y.size = 256 := by
    unfold Sw.pages
    by_cases hE : SR.commitE = 0
    · rw [if_pos hE]
      have hov : SR.over = false := by
        cases hov : SR.over with
        | false => rfl
        | true => unfold Sw.commitE at hE; rw [hov, if_pos rfl] at hE; exact absurd hE (by decide)
      have hch : SR.changed = chgs SR.base SR.now := by unfold Sw.changed; rw [hov]; rfl
      rw [hch]
      exact ⟨putK_len SR.now _ QP, putK_sizes hR.sz hB.sz.2⟩
    · rw [if_neg hE]
      exact ⟨rfl, hB.sz.2⟩
  have hcm : SR.commit.base = SR.base ∧ SR.commit.notes = SR.notes := by unfold Sw.commit; split <;> exact ⟨rfl, rfl⟩
  have old : ∀ j v, j ≠ 2 → w.cell? ⟨x, j, none⟩ = some v → (w'.setCell ⟨x, 2, none⟩ (.pointer (some ⟨rp', 0, none⟩))).cell? ⟨x, j, none⟩ = some v := fun j v hj hc => by
    rw [pw.old _ _ (.inr hj)]
    exact a3.cell hc hxr
  refine Bx.next (own' := grow own w.heap.size 4) ho hk ⟨old 0 _ (by omega) hB.x0, old 1 _ (by omega) hB.x1, old 3 _ (by omega) hB.x3, ⟨rp', pw.same, ?_⟩, fun j => by rw [pw.fr, a3.frozen hB.lt.1 hxr]; exact hB.xf j, f6, f3 (fun k hk e => ?_), f4 (fun k hk e => ?_), ⟨gN, ?_⟩, f7, f8, f9, ⟨hB.n.1, by rw [hQ.1]; exact hB.n.2.1, hB.n.2.2⟩, ⟨hB.sz.1, hQ.2⟩, hB.ba, by rw [hcm.1]; exact hB.nb, by rw [hcm.2]; exact hB.nt⟩ (fun k hk => grow_old hk) (kA.mono (fun k _ e => ?_))
  · refine (a1.mono (T := fun k => (grow own w.heap.size 4) k = 4) (fun k hk' e => ?_)).kept pw.kp (fun k e e2 => ?_)
    · by_cases hlt : k < w.heap.size
      · rw [grow_old hlt]
        rcases e with e | e
        · exact e
        · omega
      · exact grow_new (by omega)
    · have e' : k = x := e2
      rw [e', f6] at e
      omega
  · intro e2
    rcases e2 with e2 | e2
    · rw [e2] at e; omega
    · rw [e2] at e; omega
  · intro e2
    rcases e2 with e2 | e2
    · rw [e2] at e; omega
    · rw [e2] at e; omega
  · refine (a2.mono (G' := fun k => (grow own w.heap.size 4) k = 3) (fun k _ e => by rw [grow_old e.2]; exact e.1)).kept pw.kp (fun e => ?_) (fun k _ e e2 => ?_)
    · have e' : rr = x := e
      rw [e'] at hrr
      omega
    · have e' : k = x := e2
      rw [e', f6] at e
      omega
  · rcases e with e | e
    · rw [e]; omega
    · rw [e]; omega
end

end Go.Proofs.YtmnedhlgplkfhaaGreat
