/- Contracts, over the turned program: a piece of work: Commit, Begin. Conditions: those that each theorem states. -/
import Derived.Test.YtmnedhlgplkfhaaGreatSWq
namespace Go.Proofs.YtmnedhlgplkfhaaGreat
open Go.RowKit
set_option linter.unusedVariables false

set_option maxRecDepth 100000 in
set_option maxHeartbeats 400000 in
theorem send_any {w : World} {r gP : Nat} {V : Nat → Prop} {c : Nat} {P : List ByteArray} {NL : List (List Chg)} (H : Wm w r gP V c P NL) :
    Calls Tryz.prog 57 #[.pointer (some ⟨r, 0, none⟩)] w fun e w' => e = .returned (.tuple #[]) ∧ w'.cell? ⟨r, 1, none⟩ = some (.bool true) ∧ Kp (only r) w w' := by
  obtain ⟨cN, b2, _⟩ := H.c2
  obtain ⟨v, vs, b3, _⟩ := H.c3
  have b0 := H.c0
  have b1 := H.c1
  have hf := H.fr
  have f0 := hf 0
  have p0 := Put.set w r 0 (.pointer none) _ b0
  have f1 : (w.setCell ⟨r, 0, none⟩ (.pointer none)).frozen? ⟨r, 1, none⟩ = false := by rw [p0.fr]; exact hf 1
  have g1 : (w.setCell ⟨r, 0, none⟩ (.pointer none)).cell? ⟨r, 1, none⟩ = some (.bool false) := by rw [p0.old _ _ (.inr (by omega))]; exact b1
  have p1 := Put.set _ r 1 (.bool true) _ g1
  have f2 : ((w.setCell ⟨r, 0, none⟩ (.pointer none)).setCell ⟨r, 1, none⟩ (.bool true)).frozen? ⟨r, 2, none⟩ = false := by rw [p1.fr, p0.fr]; exact hf 2
  have g2 : ((w.setCell ⟨r, 0, none⟩ (.pointer none)).setCell ⟨r, 1, none⟩ (.bool true)).cell? ⟨r, 2, none⟩ = some (.slice (some ⟨gP, 0, none⟩) P.length cN) := by rw [p1.old _ _ (.inr (by omega)), p0.old _ _ (.inr (by omega))]; exact b2
  have p2 := Put.set _ r 2 (.slice none 0 0) _ g2
  have f3 : (((w.setCell ⟨r, 0, none⟩ (.pointer none)).setCell ⟨r, 1, none⟩ (.bool true)).setCell ⟨r, 2, none⟩ (.slice none 0 0)).frozen? ⟨r, 3, none⟩ = false := by rw [p2.fr, p1.fr, p0.fr]; exact hf 3
  have g3 : (((w.setCell ⟨r, 0, none⟩ (.pointer none)).setCell ⟨r, 1, none⟩ (.bool true)).setCell ⟨r, 2, none⟩ (.slice none 0 0)).cell? ⟨r, 3, none⟩ = some v := by rw [p2.old _ _ (.inr (by omega)), p1.old _ _ (.inr (by omega)), p0.old _ _ (.inr (by omega))]; exact b3
  have p3 := Put.set _ r 3 (.slice none 0 0) _ g3
  have HK := hide (((p0.kp.then p1.kp).then p2.kp).then p3.kp)
  have HC : Hid (((((w.setCell ⟨r, 0, none⟩ (.pointer none)).setCell ⟨r, 1, none⟩ (.bool true)).setCell ⟨r, 2, none⟩ (.slice none 0 0)).setCell ⟨r, 3, none⟩ (.slice none 0 0)).cell? ⟨r, 1, none⟩ = some (.bool true)) := by
    show _ = _
    rw [p3.old _ _ (.inr (by omega)), p2.old _ _ (.inr (by omega))]
    exact p1.same
  clear p0 p1 p2 p3 H
  go_enter Tryz.func57, Tryz.ntmps57
  go_wp2
  first | go_end0 | ((try simp only [Exit.inBlock, Exit.then]); refine bodyPost_ret (results_none rfl _ _ _) rfl ?_)
  exact ⟨rfl, HC.out, HK.out⟩
/-- What a commit leaves. -/
def Cmt (w w' : World) (r : Nat) (V : Nat → Prop) (q : Cq) (F : Nat → Prop) (Q : Nat → ByteArray) (M cm : Int) (s : St) (m : Nat) (S : Sw) : Prop :=
  ∃ (F' : Nat → Prop) (s' : St) (D' : Dv) (M' c' : Int), Wk w' r V q.c m S.commit ∧ Cst w' q F' D' (if S.commitE = 0 then withC Q (chgC S.now (chgs S.base S.now)) else Q) M' c' s' ∧ (∀ k, F' k → F k ∨ w.heap.size ≤ k) ∧ Kp (fun k => V k ∨ F k) w w' ∧ s'.h + s'.m ≤ s.h + s.m + 160 ∧ M' ≤ M + 300 ∧ cm ≤ c' ∧ c' ≤ cm + 1
set_option maxRecDepth 100000 in
set_option maxHeartbeats 1600000 in
theorem scommit_any {w : World} {r : Nat} {V : Nat → Prop} {q : Cq} {F : Nat → Prop} {D : Dv} {Q : Nat → ByteArray} {M cm : Int} {s : St} {m : Nat} {S : Sw} (H : Wk w r V q.c m S) (hC : Cst w q F D Q M cm s) (hd : ∀ k, k < w.heap.size → V k → ¬ F k) (hQ' : S.over = false → q.n = S.now.length ∧ ∀ i, i < S.now.length → S.base.getD i ⟨#[]⟩ = Q i) (hb : s.h + s.m ≤ 900000000) (hM : M ≤ 900000) (h0 : 0 ≤ cm) (h1 : cm ≤ 1000000) :
    Calls Tryz.prog 31 #[.pointer (some ⟨r, 0, none⟩)] w fun e w' => e = .returned (.int .i64 S.commitE) ∧ Cmt w w' r V q F Q M cm s m S := by
  have HW0 := hide H
  rcases H with ⟨hov, c1, _⟩ | ⟨hov, gP, P, NL, hW, hA, hNm, hNl⟩
  · have e1 : S.commitE = 13 := by unfold Sw.commitE; rw [hov]; rfl
    have e2 : S.commit = S := by unfold Sw.commit; rw [e1]; rfl
    have HF : Hid (Cmt w w r V q F Q M cm s m S) := by
      unfold Cmt
      rw [e1, e2]
      exact ⟨F, s, D, M, cm, HW0.out, hC, fun k h => .inl h, Kp.refl _ _, by omega, by omega, Int.le_refl _, by omega⟩
    have hr := srefusal_over r w c1
    rw [e1]
    clear hC
    go_enter Tryz.func31, Tryz.ntmps31
    go_wp2_with (first
      | (go_at_call 43; refine hr.mono ?_; rintro e w' ⟨rfl, hw'⟩; obtain rfl := hw'.symm)
      | fail)
    go_ret
    exact ⟨rfl, HF.out⟩
  · have hr := srefusal_ok r q.c w hW.c0 hW.c1
    have hn := (hQ' hov).1
    have hQ := (hQ' hov).2
    clear hQ'
    have hlen := hA.a.len
    have hPl := hA.lens.2
    have hrd := hd r hW.lt hW.gg.1
    have hch : ∀ W : World, Kp none' w W → Calls Tryz.prog 46 #[.pointer (some ⟨r, 0, none⟩)] W fun e w' => ∃ v F' s', e = .returned v ∧ OwC 76 w' w.heap.size v (chgC S.now (chgs S.base S.now)) ∧ Cz w w' q F F' D Q M cm s 160 s' ∧ (∀ k, v.ownBlock = some k → ¬ F' k) := fun W hk => by
      refine (schanges_any (F := fun k => F k ∧ k < w.heap.size) (hW.keptN hk) hA (Cas.keptN (Cas.mono hC (fun k h1 h2 => ⟨h2, h1⟩)) hk) (by rw [hn, hlen]) (fun k _ h1 h2 => hd k h2.2 h1 h2.1) (fun i hi => hQ i (by rw [← hlen]; exact hi)) hb).mono ?_
      rintro e w' ⟨v, F', s', rfl, a1, a2, a3⟩
      exact ⟨v, F', s', rfl, a1.mono hk.size, ⟨a2.c, fun k h => by
        rcases a2.f k h with h1 | h1
        · exact .inl h1.1
        · exact .inr (Nat.le_trans hk.size h1), hk.nThen (a2.k.mono (fun k _ h => h.1)), Nat.le_trans a2.b (by omega)⟩, a3⟩
    have HCH := hide hch
    have HD := hide hd
    have hsz := chgC_sizes (b := S.base) hA.sz
    have hi64 := chgC_i64 (b := S.base) hA.l1
    have hri := chgC_right S.base S.now
    rw [← hn] at hri
    have hE : S.commitE = if 31 < (chgs S.base S.now).length then 3 else 0 := by unfold Sw.commitE Sw.changed; rw [hov]; rfl
    rw [← hE] at hri
    have c0 := hW.c0
    have HWM := hide hW
    have HC0 := hide hC
    obtain ⟨L, HL⟩ : ∃ L, Hid (chgC S.now (chgs S.base S.now) = L) := ⟨_, rfl⟩
    rw [HL.out] at HCH hsz hi64 hri
    have HEND : Hid (∀ w1 : World, Kp F w w1 → Calls Tryz.prog 57 #[.pointer (some ⟨r, 0, none⟩)] w1 fun e w' => e = .returned (.tuple #[]) ∧ w'.cell? ⟨r, 1, none⟩ = some (.bool true) ∧ Kp (only r) w1 w') := fun w1 hk => send_any (HWM.out.kept hk HD.out)
    have hVr := hW.gg.1
    have HSZ := hide hsz
    have HI := hide hi64
    have HRI := hide hri
    have c0d : w.drew.cell? ⟨r, 0, none⟩ = some (.pointer (some ⟨q.c, 0, none⟩)) := c0
    have kd : Kp none' w w.drew := Kp.drew none' w
    by_cases h31 : 31 < (chgs S.base S.now).length
    · rw [if_pos h31] at hE
      have e2 : S.commit = S := by unfold Sw.commit; rw [hE]; rfl
      have HF : Hid (∀ (w' : World) (F' : Nat → Prop) (s' : St) (D' : Dv) (c' : Int), Cas w' q F' D' Q (M + 300) c' s'.K (s'.h : Int) (s'.m : Int) → (∀ k, F' k → F k ∨ w.heap.size ≤ k) → Kp F w w' → s'.h + s'.m ≤ s.h + s.m + 160 → cm ≤ c' → c' ≤ cm + 1 → Cmt w w' r V q F Q M cm s m S) := fun w' F' s' D' c' a1 a2 a3 a4 a5 a6 => by
        unfold Cmt
        rw [hE, e2]
        exact ⟨F', s', D', M + 300, c', HW0.out.kept a3 (fun k hk hv => HD.out k hk hv), a1, a2, a3.mono (fun k _ h => .inr h), a4, Int.le_refl _, a5, a6⟩
      rw [hE] at HRI ⊢
      have hCO : Hid (∀ (w1 : World) (v : Value) (F' : Nat → Prop) (s' : St), Cz w w1 q F F' D Q M cm s 160 s' → OwC 76 w1 w.heap.size v L → (∀ k, v.ownBlock = some k → ¬ F' k) → Calls Tryz.prog 56 #[.pointer (some ⟨q.c, 0, none⟩), v] w1 fun e w' => e = .returned (.int .i64 3) ∧ Cmt w w' r V q F Q M cm s m S ∧ w'.cell? ⟨r, 0, none⟩ = some (.pointer (some ⟨q.c, 0, none⟩))) := fun w1 v F' s' a1 a2 a3 => by
        have hS : Chs (fun k => ¬ F' k) w1 v L := by
          obtain ⟨a, cc, rfl, b1, b2, b3⟩ := a2.chs
          refine ⟨a, cc, rfl, b1, b2, fun i hi => ?_⟩
          obtain ⟨b, off, hab, _, b5⟩ := b3 i hi
          subst hab
          exact ⟨b, off, rfl, a3 b rfl, b5⟩
        have := ccommit_no a1.c hM hS HSZ.out HI.out h0 h1 (by rw [HRI.out]; omega)
        rw [HRI.out] at this
        refine this.mono ?_
        rintro e w' ⟨D', rfl, b1, b2⟩
        have hk : Kp F w w' := a1.k.trans b2 (fun _ _ h => h) (fun k hk h => by
          rcases a1.f k h with h1 | h1
          · exact h1
          · omega)
        exact ⟨rfl, HF.out w' F' s' D' cm b1 a1.f hk a1.b (Int.le_refl _) (by omega), hk.cell HWM.out.c0 hrd⟩
      clear HW0 hW hA hC hch hd hsz hi64 hri hE e2 hQ hov HC0 HWM HD hNl hNm
      go_enter Tryz.func31, Tryz.ntmps31
      go_upto_region 4 with (first
        | (go_at_call 43; refine hr.mono ?_; rintro e w' ⟨rfl, hw'⟩; obtain rfl := hw'.symm)
        | fail)
      go_region_held_law (fun W => W.cell? ⟨r, 0, none⟩ = some (.pointer (some ⟨q.c, 0, none⟩))) (first | assumption) (first
        | (go_at_call 46; refine (HCH.out _ kd).mono ?_; rintro e w1 ⟨v, F', s', rfl, hO1, hZ1, hv1⟩; have T1 : w1.cell? ⟨r, 0, none⟩ = some (.pointer (some ⟨q.c, 0, none⟩)) := hZ1.k.cell c0 hrd)
        | (go_at_call 56; refine (hCO.out w1 v F' s' hZ1 hO1 hv1).mono ?_; rintro e w2 ⟨rfl, hF2, T2⟩)
        | fail)
      all_goals (
        go_wp2
        go_ret
        exact ⟨rfl, hF2⟩)
    · rw [if_neg h31] at hE
      have e2 : S.commit = { S with over := true } := by unfold Sw.commit; rw [hE]; rfl
      have HF : Hid (∀ (w2 w' : World) (F' : Nat → Prop) (s' : St) (D' : Dv) (c' : Int), Cas w2 q F' D' (withC Q L) (M + 300) c' s'.K (s'.h : Int) (s'.m : Int) → (∀ k, F' k → F k ∨ w.heap.size ≤ k) → Kp F w w2 → s'.h + s'.m ≤ s.h + s.m + 160 → cm ≤ c' → c' ≤ cm + 1 → Kp (only r) w2 w' → w'.cell? ⟨r, 1, none⟩ = some (.bool true) → Cmt w w' r V q F Q M cm s m S) := fun w2 w' F' s' D' c' a1 a2 a3 a4 a5 a6 a7 a8 => by
        unfold Cmt
        rw [hE, e2, if_pos rfl, HL.out]
        refine ⟨F', s', D', M + 300, c', .inl ⟨rfl, a8, hVr⟩, Cas.kept a1 a7 (fun k _ hf e => ?_), a2, (a3.mono (fun k _ h => .inr h)).then (a7.mono (fun k _ e => .inl (by have e' : k = r := e; rw [e']; exact hVr))), a4, Int.le_refl _, a5, a6⟩
        have e' : k = r := e
        rw [e'] at hf
        rcases a2 r hf with h | h
        · exact hrd h
        · have := HWM.out.lt; omega
      rw [hE] at HRI ⊢
      have hCO : Hid (∀ (w1 : World) (v : Value) (F' : Nat → Prop) (s' : St), Cz w w1 q F F' D Q M cm s 160 s' → OwC 76 w1 w.heap.size v L → (∀ k, v.ownBlock = some k → ¬ F' k) → Calls Tryz.prog 56 #[.pointer (some ⟨q.c, 0, none⟩), v] w1 fun e w' => e = .returned (.int .i64 0) ∧ Kp F w w' ∧ (∀ w3, Kp (only r) w' w3 → w3.cell? ⟨r, 1, none⟩ = some (.bool true) → Cmt w w3 r V q F Q M cm s m S)) := fun w1 v F' s' a1 a2 a3 => by
        have hS : Chs (fun k => ¬ F' k) w1 v L := by
          obtain ⟨a, cc, rfl, b1, b2, b3⟩ := a2.chs
          refine ⟨a, cc, rfl, b1, b2, fun i hi => ?_⟩
          obtain ⟨b, off, hab, _, b5⟩ := b3 i hi
          subst hab
          exact ⟨b, off, rfl, a3 b rfl, b5⟩
        refine (ccommit_ok a1.c hM hS HSZ.out HI.out h0 h1 HRI.out).mono ?_
        rintro e w' ⟨D', c', rfl, b1, b2, b3, b4⟩
        have hk : Kp F w w' := a1.k.trans b2 (fun _ _ h => h) (fun k hk h => by
          rcases a1.f k h with h1 | h1
          · exact h1
          · omega)
        exact ⟨rfl, hk, fun w3 a7 a8 => HF.out w' w3 F' s' D' c' b1 a1.f hk a1.b b3 b4 a7 a8⟩
      clear HW0 hW hA hC hch hd hsz hi64 hri hE e2 hQ hov HC0 HD hNl hNm
      have HT : Hid (∀ w2 : World, Kp F w w2 → w2.cell? ⟨r, 0, none⟩ = some (.pointer (some ⟨q.c, 0, none⟩))) := fun w2 hk => hk.cell HWM.out.c0 hrd
      clear HWM
      go_enter Tryz.func31, Tryz.ntmps31
      go_upto_region 4 with (first
        | (go_at_call 43; refine hr.mono ?_; rintro e w' ⟨rfl, hw'⟩; obtain rfl := hw'.symm)
        | fail)
      go_region_held_law (fun W => W.cell? ⟨r, 0, none⟩ = some (.pointer (some ⟨q.c, 0, none⟩))) (first | assumption) (first
        | (go_at_call 46; refine (HCH.out _ kd).mono ?_; rintro e w1 ⟨v, F', s', rfl, hO1, hZ1, hv1⟩; have T1 : w1.cell? ⟨r, 0, none⟩ = some (.pointer (some ⟨q.c, 0, none⟩)) := hZ1.k.cell c0 hrd)
        | (go_at_call 56; refine (hCO.out w1 v F' s' hZ1 hO1 hv1).mono ?_; rintro e w2 ⟨rfl, hk2, hF2⟩; have HF2 := hide hF2; clear hF2; have T2 := HT.out w2 hk2)
        | fail)
      all_goals (
        go_wp2_with (first
          | (go_at_call 57; refine (HEND.out _ hk2).mono ?_; rintro e w3 ⟨rfl, h3, hk3⟩)
          | fail)
        go_ret
        exact ⟨rfl, HF2.out _ hk3 h3⟩)

end Go.Proofs.YtmnedhlgplkfhaaGreat
