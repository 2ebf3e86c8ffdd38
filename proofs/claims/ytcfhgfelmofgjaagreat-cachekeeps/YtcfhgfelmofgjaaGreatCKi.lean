/- A cache and the document's, side by side: a step of each. Conditions: those that each theorem states. -/
import Derived.Test.YtcfhgfelmofgjaaGreatCUseH
namespace Go.Proofs.YtcfhgfelmofgjaaGreat
open Go.RowKit
set_option linter.unusedVariables false

theorem cuse_any {w : World} {r : Nat} {G : Nat → Prop} {sz n : Nat} {s : St} (z : Int) (H : Rf w r G sz s) (hn : s.K.Nodup) (hl : s.K.length ≤ sz) (hsz : sz ≤ 64) (hh : s.h + s.m ≤ 1000000000) (hz : inR n z = true) :
    Calls Tryz.prog 15 #[.pointer (some ⟨r, 0, none⟩), .int .i64 z] w fun e w' => e = .returned (.tuple #[]) ∧ Rf w' r (fun k => G k ∨ w.heap.size ≤ k) sz (s.use sz n z) ∧ Kp (only r) w w' := by
  unfold St.use
  rw [if_pos hz]
  by_cases hk : z ∈ s.K
  · rw [if_pos hk]
    exact cuse_hit z H hn hl hsz hh hk
  · rw [if_neg hk]
    exact cuse_miss z H hn hl hsz hh hk
theorem St.use_nodup {s : St} (sz n : Nat) (z : Int) (h : s.K.Nodup) : (s.use sz n z).K.Nodup := by
  unfold St.use
  split
  · split <;> exact Go.Proofs.YtcfhgfelmofgjaaGreat.use_nodup h z
  · exact h
theorem St.use_len {s : St} (sz n : Nat) (z : Int) (h : s.K.length ≤ sz) : (s.use sz n z).K.length ≤ sz := by
  unfold St.use
  split
  · split <;> exact Go.Proofs.YtcfhgfelmofgjaaGreat.use_len h z
  · exact h
/-- A cache and the document's, in one state, behind j steps. -/
structure Ki (w wr : World) (q : Cq) (r : Nat) (j : Nat) : Prop where
  ex : ∃ D Q cm s F G, Cst wr q F D Q ((j : Int) * 300) cm s ∧ Rf wr r G q.sz s ∧ 0 ≤ cm ∧ cm ≤ (j : Int) ∧ s.h + s.m ≤ j ∧ s.K.Nodup ∧ s.K.length ≤ q.sz ∧ (∀ k, F k → w.heap.size ≤ k ∧ k ≠ r ∧ ¬ G k) ∧ (∀ k, G k → w.heap.size ≤ k)
  hr : w.heap.size ≤ r
  hz : q.sz ≤ 64
  kp : Kp none' w wr
theorem Ki.keptN {w wr W : World} {q : Cq} {r j : Nat} (H : Ki w wr q r j) (hW : Kp none' wr W) : Ki w W q r j := by
  obtain ⟨D, Q, cm, s, F, G, hC, hR, h0, h1, h2, h3, h4, h5, h6⟩ := H.ex
  exact ⟨⟨D, Q, cm, s, F, G, Cas.keptN hC hW, hR.kept hW (fun h => h) (fun _ _ h => h), h0, h1, h2, h3, h4, h5, h6⟩, H.hr, H.hz, H.kp.then hW⟩
/-- A commit of one page. -/
theorem ki_commit {w wr W : World} {q : Cq} {r j B : Nat} {z : Int} {X : ByteArray} (H : Ki w wr q r j) (hj : j ≤ 1000) (hW : Kp none' wr W) (c0 : W.cell? ⟨B, 0, none⟩ = some (.int .i64 z)) (c1 : W.cell? ⟨B, 1, none⟩ = some (.string X)) (hB : wr.heap.size ≤ B) (hz : -9223372036854775808 ≤ z ∧ z < 9223372036854775808) (hX : X.size = 256) :
    Calls Tryz.prog 10 #[.pointer (some ⟨q.c, 0, none⟩), .slice (some ⟨B, 0, none⟩) 1 1] W fun e w' => e = .returned (.int .i64 (rdCE q.n z)) ∧ Ki w w' q r (j + 1) ∧ Kp (fun k => k < wr.heap.size ∧ w.heap.size ≤ k) W w' := by
  obtain ⟨D, Q, cm, s, F, G, hC, hR, h0, h1, h2, h3, h4, h5, h6⟩ := H.ex
  have hC' : Cst wr q (fun k => F k ∧ k < wr.heap.size) D Q ((j : Int) * 300) cm s := Cas.mono hC (fun k hk h => ⟨h, hk⟩)
  refine (commit_one (Cas.keptN hC' hW) (by omega) h0 (by omega) c0 c1 (fun h => by omega) hz hX).mono ?_
  rintro e w' ⟨D', c', rfl, a1, a2, a3, a4⟩
  have hR' : Rf w' r G q.sz s := (hR.kept hW (fun h => h) (fun _ _ h => h)).kept a2 (fun h => (h5 r h.1).2.1 rfl) (fun k hk h => (h5 k h.1).2.2 hk)
  refine ⟨rfl, ⟨⟨D', _, c', s, _, G, M_le a1 (by omega), hR', by omega, by omega, by omega, h3, h4, fun k hk => h5 k hk.1, h6⟩, H.hr, H.hz, ?_⟩, a2.mono (fun k _ h => ⟨h.2, (h5 k h.1).1⟩)⟩
  exact (H.kp.then hW).trans a2 (fun _ _ h => h) (fun k hk h => absurd hk (by have := (h5 k h.1).1; omega))
/-- A read of a page that isn't there. -/
theorem ki_none {w wr W : World} {q : Cq} {r j : Nat} {z : Int} (H : Ki w wr q r j) (hj : j ≤ 1000) (hW : Kp none' wr W) (hz : ¬ inR q.n z = true) :
    Calls Tryz.prog 12 #[.pointer (some ⟨q.c, 0, none⟩), .int .i64 z] W fun e w' => e = .returned (.tuple #[.string ⟨#[]⟩, .int .i64 7]) ∧ Ki w w' q r (j + 1) ∧ Kp (fun k => k < wr.heap.size ∧ w.heap.size ≤ k) W w' := by
  obtain ⟨D, Q, cm, s, F, G, hC, hR, h0, h1, h2, h3, h4, h5, h6⟩ := H.ex
  refine (cread_bad (Cas.keptN hC hW) z (fun h => hz (inR_iff.2 h))).mono ?_
  rintro e w' ⟨rfl, rfl⟩
  refine ⟨rfl, ⟨⟨D, Q, cm, s, F, G, M_le (Cas.keptN hC hW) (by omega), hR.kept hW (fun h => h) (fun _ _ h => h), h0, by omega, by omega, h3, h4, h5, h6⟩, H.hr, H.hz, H.kp.then hW⟩, Kp.refl _ _⟩
/-- A read of a page that is there; then the document's cache uses it. -/
theorem ki_read {w wr W : World} {q : Cq} {r j : Nat} {z : Int} (H : Ki w wr q r j) (hj : j ≤ 1000) (hW : Kp none' wr W) (hz : inR q.n z = true) :
    Calls Tryz.prog 12 #[.pointer (some ⟨q.c, 0, none⟩), .int .i64 z] W fun e w' => (∃ X, e = .returned (.tuple #[.string X, .int .i64 0])) ∧ Kp (fun k => k < wr.heap.size ∧ w.heap.size ≤ k) W w' ∧
      Hid (Calls Tryz.prog 15 #[.pointer (some ⟨r, 0, none⟩), .int .i64 z] w' fun e' w2 => e' = .returned (.tuple #[]) ∧ Ki w w2 q r (j + 1)) := by
  obtain ⟨D, Q, cm, s, F, G, hC, hR, h0, h1, h2, h3, h4, h5, h6⟩ := H.ex
  have hC' : Cst wr q (fun k => F k ∧ k < wr.heap.size) D Q ((j : Int) * 300) cm s := Cas.mono hC (fun k hk h => ⟨h, hk⟩)
  have hRn : Rf wr r (fun k => G k ∧ k < wr.heap.size) q.sz s := hR.mono (fun k hk h => ⟨h, hk⟩)
  refine (cread_any (Cas.keptN hC' hW) (by omega) z).mono ?_
  rintro e w' ⟨rfl, a1, a2⟩
  have hsu := St.sum (sz := q.sz) (n := q.n) s z
  rw [if_pos hz] at hsu
  have hR' : Rf w' r (fun k => G k ∧ k < wr.heap.size) q.sz s := (hRn.kept hW (fun h => h) (fun _ _ h => h)).kept a2 (fun h => (h5 r h.1).2.1 rfl) (fun k hk h => (h5 k h.1).2.2 hk.1)
  have a1' : Cst w' q (fun k => ((F k ∧ k < wr.heap.size) ∨ W.heap.size ≤ k) ∧ k < w'.heap.size) D Q ((j : Int) * 300) cm (s.use q.sz q.n z) := Cas.mono a1 (fun k hk h => ⟨h, hk⟩)
  have hrl := hR.lt
  have hWs := hW.size
  have hws := H.kp.size
  refine ⟨⟨rdCS q.n Q z, by unfold rdCE; rw [if_pos hz]⟩, a2.mono (fun k _ h => ⟨h.2, (h5 k h.1).1⟩), ?_⟩
  show Calls _ _ _ _ _
  refine (cuse_any (n := q.n) z hR' h3 h4 H.hz (by omega) hz).mono ?_
  rintro e' w2 ⟨rfl, b1, b2⟩
  have hne : ∀ k, (((F k ∧ k < wr.heap.size) ∨ W.heap.size ≤ k) ∧ k < w'.heap.size) → k ≠ r ∧ w.heap.size ≤ k ∧ ¬ ((G k ∧ k < wr.heap.size) ∨ w'.heap.size ≤ k) := fun k hk => by
    rcases hk with ⟨h | h, h'⟩
    · refine ⟨(h5 k h.1).2.1, (h5 k h.1).1, fun hg => ?_⟩
      rcases hg with hg | hg
      · exact (h5 k h.1).2.2 hg.1
      · omega
    · refine ⟨by omega, by omega, fun hg => ?_⟩
      rcases hg with hg | hg
      · omega
      · omega
  have hk1 : Kp none' w w' := (H.kp.then hW).trans a2 (fun _ _ h => h) (fun k hk h => absurd hk (by have := (h5 k h.1).1; omega))
  have hg6 : ∀ k, ((G k ∧ k < wr.heap.size) ∨ w'.heap.size ≤ k) → w.heap.size ≤ k := fun k hk => by
    rcases hk with h | h
    · exact h6 k h.1
    · exact Nat.le_trans hk1.size h
  have hkw : Kp none' w w2 := hk1.trans b2 (fun _ _ h => h) (fun k hk e => absurd hk (by have e' : k = r := e; have := H.hr; omega))
  have hC2 := M_le (Cas.kept a1' b2 (fun k _ h e => (hne k h).1 e)) (M' := ((j + 1 : Nat) : Int) * 300) (by omega)
  exact ⟨rfl, ⟨⟨D, Q, cm, s.use q.sz q.n z, _, _, hC2, b1, h0, by omega, by omega, St.use_nodup _ _ _ h3, St.use_len _ _ _ h4, fun k hk => ⟨(hne k hk).2.1, (hne k hk).1, (hne k hk).2.2⟩, hg6⟩, H.hr, H.hz, hkw⟩⟩

end Go.Proofs.YtcfhgfelmofgjaaGreat
