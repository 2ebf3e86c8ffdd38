/- Contract, over the turned program: steps done one behind the other. Conditions: those that the theorem states. -/
import Derived.Test.YtgfijbbibafdfaaGreatPWrite
import Derived.Shelf.Abstract
namespace Go.Proofs.YtgfijbbibafdfaaGreat
open Go.RowKit
set_option linter.unusedVariables false

/-- A function value that does steps upon a device of which H holds. -/
structure Doer (H : Dv → Prop) (M : Int) (N : Nat) (p : Dp) (w : World) (f : Value) (L : List Stp) : Prop where
  fn : ∃ m fst cap, f = .func (.func m) fst cap ∧ (∀ args W, (callFunc m args).run Tryz.prog W = .ok (.enter m args) W) ∧ ∀ (W : World) (D : Dv), Kp p.mem w W → Dev W p D → D.n = N → H D → 0 ≤ D.c → D.c ≤ M →
    Calls Tryz.prog m (fst ++ cap) W fun e W' => e = .returned (.int .i64 (D.goE L)) ∧ Dev W' p (D.go L) ∧ Kp p.mem W W'
set_option maxRecDepth 100000 in
set_option maxHeartbeats 400000 in
theorem inTurn_any (M : Int) (N : Nat) (p : Dp) (D : Dv) (b n : Nat) (fs : List Value) (Ls : List (List Stp)) (w : World) (hD : Dev w p D) (hN : D.n = N) (h0 : 0 ≤ D.c) (h1 : D.c + (Ls.flatten).length ≤ M) (hbm : ¬ p.mem b)
    (hl : fs.length = Ls.length) (hl6 : fs.length ≤ 6) (hc : ∀ k (h : k < fs.length), w.cell? ⟨b, k, none⟩ = some fs[k]) (hf : ∀ k (h : k < fs.length) (h' : k < Ls.length), Doer (fun D' => k = 0 → D' = D) M N p w fs[k] Ls[k]) :
    Calls Tryz.prog 28 #[.slice (some ⟨b, 0, none⟩) fs.length n] w fun e w' => e = .returned (.int .i64 (D.goE Ls.flatten)) ∧ Dev w' p (D.go Ls.flatten) ∧ Kp p.mem w w' := by
  obtain ⟨E, HE⟩ : ∃ E, Hid (D.goE Ls.flatten = E) := ⟨_, rfl⟩
  obtain ⟨F, HF⟩ : ∃ F, Hid (D.go Ls.flatten = F) := ⟨_, rfl⟩
  rw [HE.out, HF.out]
  have HC := hide hc
  have HFN := hide hf
  have HL := hide hl
  clear hc hf hl
  go_enter Tryz.func28, Tryz.ntmps28
  go_wp2
  go_loopw [8] (fun t wr => ∃ j : Nat, j ≤ fs.length ∧ t = .int .i64 j ∧ D.goE ((Ls.take j).flatten) = 0 ∧ Dev wr p (D.go ((Ls.take j).flatten)) ∧ Kp p.mem w wr) (fun t _ => fs.length - (intOf t).toNat)
  case atStart => exact ⟨0, Nat.zero_le _, rfl, rfl, hD, Kp.refl _ _⟩
  case round =>
    obtain ⟨j, hj, rfl, hz, hDr, hK⟩ := hrel
    by_cases hlt : j < fs.length
    · have hji : (j : Int) < (fs.length : Int) := by omega
      have hlj : j < Ls.length := by rw [← HL.out]; exact hlt
      obtain ⟨m, fst, cap, hfj, hent, hcall⟩ := (HFN.out j hlt hlj).fn
      have hcj := hK.cell (HC.out j hlt) hbm
      rw [hfj] at hcj
      have ht : (Ls.take (j + 1)).flatten = (Ls.take j).flatten ++ Ls[j] := by rw [List.take_succ_eq_append_getElem hlj, List.flatten_append]; simp
      have hall : Ls.flatten = (Ls.take j).flatten ++ Ls[j] ++ (Ls.drop (j + 1)).flatten := by rw [← ht, ← List.flatten_append, List.take_append_drop]
      have hlen : (Ls.flatten).length = ((Ls.take j).flatten).length + Ls[j].length + ((Ls.drop (j + 1)).flatten).length := by
        have := congrArg List.length hall
        simpa only [List.length_append] using this
      have hgn := go_n ((Ls.take j).flatten) D
      have hDn : (D.go ((Ls.take j).flatten)).n = N := by rw [hgn.1]; exact hN
      have hH : j = 0 → D.go ((Ls.take j).flatten) = D := fun e => by subst e; rfl
      have hD0 : 0 ≤ (D.go ((Ls.take j).flatten)).c := by omega
      have hD1 : (D.go ((Ls.take j).flatten)).c ≤ M := by omega
      have Hok := hide (seq_ok ((Ls.take j).flatten) Ls[j] D hz)
      have Hbad := hide (seq_bad ((Ls.take j).flatten) Ls[j] ((Ls.drop (j + 1)).flatten) D hz)
      have HALL := hide hall
      have HT := hide ht
      rw [← HT.out] at Hok
      rw [← HALL.out, HE.out, HF.out] at Hbad
      clear hall ht hlen hgn hfj
      have hc1 := hcall wr _ hK hDr hDn hH hD0 hD1
      clear hcall hH
      generalize D.go ((Ls.take j).flatten) = Dj at *
      obtain ⟨L, HLj⟩ : ∃ L, Hid (Ls[j] = L) := ⟨_, hide rfl⟩
      rw [HLj.out] at Hok Hbad hc1
      have hc2 := hc1
      clear hc1
      rcases goE_or L Dj with he | he
      · have HO2 := hide (Hok.out he)
        rw [he] at hc2
        clear Hok Hbad
        go_wp2_with (refine hc2.mono ?_; rintro e w2 ⟨rfl, hD3, hk3⟩)
        go_roundw
        case rel => exact ⟨j + 1, by omega, by go_num, HO2.out.1, by rw [HO2.out.2]; exact hD3, hK.then hk3⟩
        case measure => simp [intOf]; omega
      · have HO2 := hide (Hbad.out (by rw [he]; decide))
        rw [he] at hc2
        clear Hok Hbad
        go_wp2_with (refine hc2.mono ?_; rintro e w2 ⟨rfl, hD3, hk3⟩)
        go_ret
        exact ⟨by rw [HO2.out.1]; rfl, by rw [HO2.out.2]; exact hD3, hK.then hk3⟩
    · obtain rfl : j = fs.length := by omega
      rw [List.take_of_length_le (by have := HL.out; omega)] at hz hDr
      rw [HE.out] at hz
      rw [HF.out] at hDr
      go_wp2
      go_ret
      exact ⟨by rw [hz]; rfl, hDr, hK⟩

end Go.Proofs.YtgfijbbibafdfaaGreat
