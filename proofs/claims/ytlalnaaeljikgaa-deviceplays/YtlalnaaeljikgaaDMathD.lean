/- What a crash leaves of each sector, and what writes alone make of a device: plain mathematics. Conditions: those that each theorem states. -/
import Derived.Test.YtlalnaaeljikgaaDScript
namespace Go.Proofs.Ytlalnaaeljikgaa
open Go.RowKit
set_option linter.unusedVariables false

theorem unsL_nodup (D : Dv) : (unsL D).Nodup := by
  unfold unsL List.Nodup
  exact List.Pairwise.filter _ (List.nodup_range (n := D.n))
theorem unsL_some {D : Dv} {k : Nat} (h : k ∈ unsL D) : ∃ y, D.u k = some y := Option.isSome_iff_exists.1 (by simpa using (List.mem_filter.1 h).2)
theorem mem_unsL {D : Dv} {k : Nat} : k ∈ unsL D ↔ k < D.n ∧ (D.u k).isSome = true := by
  unfold unsL
  rw [List.mem_filter]
  simp
theorem crN_out (D : Dv) (l : List Bool) (torn cut : Int) (k : Nat) : ∀ m, (∀ j, j < m → (unsL D).getD j 0 ≠ k) → crN D l torn cut m k = D.s k
  | 0, _ => rfl
  | m + 1, h => by
    rw [crN, upd, if_neg (fun e => h m (by omega) e.symm)]
    exact crN_out D l torn cut k m (fun j hj => h j (by omega))
theorem getD_of {α : Type} (l : List α) (d : α) (j : Nat) (h : j < l.length) : l.getD j d = l[j] := by rw [List.getD_eq_getElem?_getD, List.getElem?_eq_getElem h]; rfl
theorem nodup_at {l : List Nat} (hn : l.Nodup) {i j : Nat} (hi : i < l.length) (hj : j < l.length) (he : l[i] = l[j]) : i = j := by
  have hp := List.pairwise_iff_getElem.1 hn
  rcases Nat.lt_trichotomy i j with h | h | h
  · exact absurd he (hp i j hi hj h)
  · exact h
  · exact absurd he.symm (hp j i hj hi h)
theorem crN_in (D : Dv) (l : List Bool) (torn cut : Int) (j : Nat) (hj : j < (unsL D).length) : ∀ m, j < m → m ≤ (unsL D).length →
    crN D l torn cut m ((unsL D)[j]) = mixS (D.s ((unsL D)[j])) (lookV D.u ((unsL D)[j])) (staysN j l torn cut)
  | 0, h, _ => by omega
  | m + 1, h, hm => by
    have hg := getD_of (unsL D) 0 m (by omega)
    by_cases e : j = m
    · subst e
      rw [crN, hg, upd, if_pos rfl, crN_out D l torn cut _ j (fun i hi => by
        rw [getD_of (unsL D) 0 i (by omega)]
        intro he
        have := nodup_at (unsL_nodup D) (by omega) hj he
        omega)]
    · rw [crN, hg, upd, if_neg (fun he => e (nodup_at (unsL_nodup D) hj (by omega) he))]
      exact crN_in D l torn cut j hj m (by omega) (by omega)
theorem mixS_all {a b : List UInt8} (ha : a.length = 64) (hb : b.length = 64) : mixS a b 64 = b := by
  unfold mixS
  rw [List.take_of_length_le (by omega), List.drop_eq_nil_of_le (by omega), List.append_nil]
theorem mixS_none (a b : List UInt8) : mixS a b 0 = a := by simp [mixS]
theorem rdL_at (D : Dv) (k : Nat) (h : k < D.n) : rdL D (k : Int) = D.at k := by
  have : hasB D.n (k : Int) = true := by simp [hasB]; omega
  simp [rdL, this]
/-- What an unsure sector reads behind a crash. -/
theorem crash_read (D : Dv) (l : List Bool) (torn cut : Int) (j : Nat) (hj : j < (unsL D).length) : rdL (D.crash l torn cut) ((unsL D)[j] : Int) = mixS (D.s ((unsL D)[j])) (D.at ((unsL D)[j])) (staysN j l torn cut) := by
  have hlt := unsL_lt D _ (List.getElem_mem hj)
  rw [rdL_at (D.crash l torn cut) _ hlt]
  show crN D l torn cut (unsL D).length ((unsL D)[j]) = _
  rw [crN_in D l torn cut j hj _ hj (Nat.le_refl _)]
  obtain ⟨y, hy⟩ := unsL_some (List.getElem_mem hj : (unsL D)[j] ∈ unsL D)
  simp [lookV, Dv.at, hy]
/-- .. and a sure one. -/
theorem crash_sure (D : Dv) (l : List Bool) (torn cut : Int) (k : Nat) (hk : k < D.n) (hn : k ∉ unsL D) : rdL (D.crash l torn cut) (k : Int) = D.s k := by
  rw [rdL_at (D.crash l torn cut) _ hk]
  show crN D l torn cut (unsL D).length k = _
  refine crN_out D l torn cut k _ (fun j hj => ?_)
  rw [getD_of (unsL D) 0 j hj]
  intro he
  exact hn (he ▸ List.getElem_mem hj)

/-- Writes alone. -/
def wstep (D : Dv) (o : OpD) : Dv := if o.kind = 0 then D.step o else D
def Dv.writes (D : Dv) (l : List OpD) : Dv := l.foldl wstep D
theorem writes_take (D : Dv) (l : List OpD) (k : Nat) (h : k < l.length) : D.writes (l.take (k + 1)) = wstep (D.writes (l.take k)) l[k] := by
  rw [List.take_succ_eq_append_getElem h]
  unfold Dv.writes
  rw [List.foldl_append]
  rfl
theorem write_s (D : Dv) (i : Int) (s : ByteArray) : (D.write i s).s = D.s := by unfold Dv.write; split <;> rfl
theorem wstep_s (D : Dv) (o : OpD) : (wstep D o).s = D.s := by
  unfold wstep
  split
  · rename_i h; simp [Dv.step, h, write_s]
  · rfl
theorem wstep_n (D : Dv) (o : OpD) : (wstep D o).n = D.n := by unfold wstep; split <;> simp [step_n]
theorem wstep_c (D : Dv) (o : OpD) : D.c ≤ (wstep D o).c ∧ (wstep D o).c ≤ D.c + 1 := by
  unfold wstep
  split
  · exact step_c D o
  · omega
theorem writes_s (l : List OpD) : ∀ D : Dv, (D.writes l).s = D.s := by
  induction l with
  | nil => intro D; rfl
  | cons o l ih => intro D; rw [show D.writes (o :: l) = (wstep D o).writes l from rfl, ih, wstep_s]
theorem writes_n (l : List OpD) : ∀ D : Dv, (D.writes l).n = D.n := by
  induction l with
  | nil => intro D; rfl
  | cons o l ih => intro D; rw [show D.writes (o :: l) = (wstep D o).writes l from rfl, ih, wstep_n]
theorem writes_c (l : List OpD) : ∀ D : Dv, D.c ≤ (D.writes l).c ∧ (D.writes l).c ≤ D.c + l.length := by
  induction l with
  | nil => intro D; simp [Dv.writes]
  | cons o l ih =>
    intro D
    have h1 := ih (wstep D o)
    have h2 := wstep_c D o
    rw [show D.writes (o :: l) = (wstep D o).writes l from rfl, List.length_cons]
    omega

end Go.Proofs.Ytlalnaaeljikgaa
