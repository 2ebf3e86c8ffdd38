/- A pager upon a device at rest: commits that may be or may not, what is there behind a crash, the same pages. Conditions: those that each theorem states. -/
import Derived.Test.YtgfijbbibafdfaaGreatPLives
import Derived.Test.YtgfijbbibafdfaaGreatPWith
import Derived.Test.YtgfijbbibafdfaaGreatPChg
import Derived.Test.YtgfijbbibafdfaaGreatPCrash
namespace Go.Proofs.YtgfijbbibafdfaaGreat
open Go.RowKit
set_option linter.unusedVariables false

theorem Rest.kept {w w' : World} {p : Dp} {D : Dv} {n : Nat} {Q : Nat → ByteArray} {m : Int} {S : Nat → Prop} (h : Rest w p D n Q m) (hk : Kp S w w') (hS : ∀ k, p.mem k → ¬ S k) : Rest w' p D n Q m := ⟨h.hd.kept hk hS, h.hn, h.hu, h.hc, h.c0, h.c1⟩
theorem Rest.less {w : World} {p : Dp} {D : Dv} {n : Nat} {Q : Nat → ByteArray} {m m' : Int} (h : Rest w p D n Q m) (hm : m ≤ m') : Rest w p D n Q m' := ⟨h.hd, h.hn, h.hu, h.hc, h.c0, Int.le_trans h.c1 hm⟩
/-- What is there behind a crash, where all was sure. -/
theorem crash_clean {n : Nat} {D : Dv} {Q : Nat → ByteArray} (hn : D.n = 126 + 4 * n) (hu : ∀ k, D.u k = none) (hC : Clean n D.s Q) (l : List Bool) (torn cut : Int) : Clean n (D.crash l torn cut).s Q := by
  have ha := crash_after D l torn cut
  refine ⟨by rw [ha 0 (by omega) (hu 0)]; exact hC.1, fun p hp j hj => ?_⟩
  rw [ha (placeN p j) (by unfold placeN; omega) (hu _)]
  exact hC.2 p hp j hj
/-- Commit upon it, whatever the changes. -/
theorem rest_commit_any {w : World} {p : Dp} {D : Dv} {n g : Nat} {Q : Nat → ByteArray} {m c : Int} {bv v : Value} {l : List Chg} (h : Rest w p D n Q m) (hst : D.st = false) (hm : m ≤ 900000) (hn2 : n ≤ 160) (hQ : ∀ p, (Q p).size = 256) (hP : Pag w g p n c bv [])
    (hS : Chs (fun k => ¬ p.mem k) w v l) (hd : ∀ c ∈ l, c.data.size = 256) (hr : i64s (l.map Chg.page)) (hc0 : 0 ≤ c) (hc1 : c ≤ 1000000) :
    Calls Tryz.prog 15 #[.pointer (some ⟨g, 0, none⟩), v] w fun e w' => ∃ D' c', e = .returned (.int .i64 (rightE n l)) ∧ Rest w' p D' n (if rightE n l = 0 then withC Q l else Q) (m + 300) ∧ D'.st = false ∧ Pag w' g p n c' bv [] ∧ Kp (fun k => p.mem k ∨ k = g) w w' ∧
      D'.c = D.c + (if rightE n l = 0 then (callsN l.length : Int) else 0) ∧ c' = c + (if rightE n l = 0 ∧ l ≠ [] then 1 else 0) := by
  by_cases hE : rightE n l = 0
  · have hok := right_ok hE hd
    have hm31 := hok.m
    by_cases hl : l = []
    · have hcn := commit_no g n p c bv [] v l _ w hP (by simp) hS hr (.inr hl)
      rw [refE_right hn2 hd] at hcn
      refine hcn.mono ?_
      rintro e w' ⟨rfl, hk⟩
      refine ⟨D, c, rfl, ?_, hst, hP.keptN hk, hk.mono (fun _ _ h => h.elim), ?_, ?_⟩
      · rw [if_pos hE, hl]
        exact (h.keptN hk).less (by omega)
      · rw [if_pos hE, hl]; simp [callsN]
      · rw [if_neg (fun h => h.2 hl)]; omega
    · refine (rest_commit h hst hm hn2 hQ hP hS hok hl hc0 hc1).mono ?_
      rintro e w' ⟨D', rfl, hR, hst', hc', hP', hk⟩
      refine ⟨D', c + 1, by rw [hE], ?_, hst', hP', hk, ?_, ?_⟩
      · rw [if_pos hE]
        exact hR.less (by omega)
      · rw [if_pos hE, hc']
        have : l.length ≠ 0 := fun e => hl (List.eq_nil_of_length_eq_zero e)
        simp [callsN, this]
      · rw [if_pos ⟨hE, hl⟩]
  · have hcn := commit_no g n p c bv [] v l _ w hP (by simp) hS hr (.inl (by rw [refE_right hn2 hd]; exact hE))
    rw [refE_right hn2 hd] at hcn
    refine hcn.mono ?_
    rintro e w' ⟨rfl, hk⟩
    refine ⟨D, c, rfl, ?_, hst, hP.keptN hk, hk.mono (fun _ _ h => h.elim), ?_, ?_⟩
    · rw [if_neg hE]
      exact (h.keptN hk).less (by omega)
    · rw [if_neg hE]; omega
    · rw [if_neg (fun h => hE h.1)]; omega
theorem same_true {D : Dv} {bl : List Chg} {Q : List ByteArray} (h : ∀ i, i < Q.length → rdP D bl i = pgF Q i) : sameB D bl Q = true := by
  unfold sameB
  rw [decide_eq_true_iff]
  intro i hi
  rw [h i hi, pgF_at Q i hi]
theorem rest_same {w : World} {p : Dp} {D : Dv} {g r : Nat} {Q : List ByteArray} {m c : Int} {bv : Value} {S : Nat → Prop} (h : Rest w p D Q.length (pgF Q) m) (hn2 : Q.length ≤ 160) (hQ : ∀ x ∈ Q, x.size = 256) (hP : Pag w g p Q.length c bv []) (hPl : Pgl S w r Q) :
    Calls Tryz.prog 16 #[.pointer (some ⟨g, 0, none⟩), .pointer (some ⟨r, 0, none⟩)] w fun e w' => e = .returned (.bool true) ∧ Kp none' w w' := by
  have hs := same_any g r p D c bv [] S Q w hP h.hd hPl (by rw [h.hn]; exact Nat.le_refl _) hn2 (by simp)
  rw [same_true (D := D) (bl := []) (Q := Q) (fun i hi => clean_look h.hu h.hc (pgF_size hQ) i hi)] at hs
  exact hs
theorem rep_pgF (n : Nat) : pgF (List.replicate n (fillB 0)) = fun _ => fillB 0 := by
  funext p
  unfold pgF
  rw [List.getD_eq_getElem?_getD, List.getElem?_replicate]
  split <;> rfl

end Go.Proofs.YtgfijbbibafdfaaGreat
