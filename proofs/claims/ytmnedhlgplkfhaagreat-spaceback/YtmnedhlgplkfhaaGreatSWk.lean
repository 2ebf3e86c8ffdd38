/- Contracts, over the turned program: a piece of work: which pages a commit would change. Conditions: those that each theorem states. -/
import Derived.Test.YtmnedhlgplkfhaaGreatSWt
import Derived.Test.YtmnedhlgplkfhaaGreatJS3
import Derived.Test.YtmnedhlgplkfhaaGreatJK3
namespace Go.Proofs.YtmnedhlgplkfhaaGreat
open Go.RowKit
set_option linter.unusedVariables false

/-- The changes of the first k pages. -/
def chgCK (b l : List ByteArray) (k : Nat) : List Chg := chgC l ((List.range k).filter (fun i => isU l i && decide (l.getD i ⟨#[]⟩ ≠ b.getD i ⟨#[]⟩)))
theorem chgCK_succ (b l : List ByteArray) (k : Nat) : chgCK b l (k + 1) = chgCK b l k ++ (if (isU l k && decide (l.getD k ⟨#[]⟩ ≠ b.getD k ⟨#[]⟩)) = true then [⟨(k : Int), l.getD k ⟨#[]⟩⟩] else []) := by
  unfold chgCK chgC
  rw [List.range_succ, List.filter_append, List.map_append]
  congr 1
  by_cases h : (isU l k && decide (l.getD k ⟨#[]⟩ ≠ b.getD k ⟨#[]⟩)) = true
  · rw [if_pos h]
    simp only [List.filter_cons, h, if_true, List.filter_nil, List.map_cons, List.map_nil]
  · rw [if_neg h]
    have h' : (isU l k && decide (l.getD k ⟨#[]⟩ ≠ b.getD k ⟨#[]⟩)) = false := by simpa using h
    simp only [List.filter_cons, h', if_false, List.filter_nil, List.map_nil, Bool.false_eq_true]
theorem chgCK_len (b l : List ByteArray) (k : Nat) : (chgCK b l k).length ≤ k := by
  unfold chgCK
  rw [chgC_len]
  exact Nat.le_trans (List.length_filter_le _ _) (by simp)
theorem chgCK_all (b l : List ByteArray) : chgCK b l l.length = chgC l (chgs b l) := rfl
theorem St.use_le (sz n : Nat) (s : St) (z : Int) : (s.use sz n z).h + (s.use sz n z).m ≤ s.h + s.m + 1 := by
  have := St.sum (sz := sz) (n := n) s z
  split at this <;> omega
/-- What a call that reads leaves of the cache and of what it makes itself. -/
structure Cz (w w' : World) (q : Cq) (F F' : Nat → Prop) (D : Dv) (Q : Nat → ByteArray) (M cm : Int) (s : St) (n : Nat) (s' : St) : Prop where
  c : Cst w' q F' D Q M cm s'
  f : ∀ k, F' k → F k ∨ w.heap.size ≤ k
  k : Kp F w w'
  b : s'.h + s'.m ≤ s.h + s.m + n
theorem Cz.refl {w : World} {q : Cq} {F : Nat → Prop} {D : Dv} {Q : Nat → ByteArray} {M cm : Int} {s : St} (h : Cst w q F D Q M cm s) : Cz w w q F F D Q M cm s 0 s := ⟨h, fun _ h => .inl h, Kp.refl _ _, Nat.le_refl _⟩
theorem Cz.thenN {w w1 w2 : World} {q : Cq} {F F' : Nat → Prop} {D : Dv} {Q : Nat → ByteArray} {M cm : Int} {s s' : St} {n : Nat} (h : Cz w w1 q F F' D Q M cm s n s') (hk : Kp none' w1 w2) : Cz w w2 q F F' D Q M cm s n s' := ⟨Cas.keptN h.c hk, h.f, h.k.thenN hk, h.b⟩
/-- A block of the call's own is turned. -/
theorem Cz.own {w w1 w2 : World} {q : Cq} {F F' T : Nat → Prop} {D : Dv} {Q : Nat → ByteArray} {M cm : Int} {s s' : St} {n : Nat} (h : Cz w w1 q F F' D Q M cm s n s') (hk : Kp T w1 w2) (hT : ∀ k, T k → w.heap.size ≤ k ∧ ¬ F' k) : Cz w w2 q F F' D Q M cm s n s' :=
  ⟨Cas.kept h.c hk (fun k _ hf ht => (hT k ht).2 hf), h.f, h.k.trans hk (fun _ _ h => h) (fun k hk ht => absurd (hT k ht).1 (by omega)), h.b⟩
theorem Cz.read {w w1 : World} {q : Cq} {F F' : Nat → Prop} {D : Dv} {Q : Nat → ByteArray} {M cm : Int} {s s' : St} {n : Nat} (h : Cz w w1 q F F' D Q M cm s n s') (hb : s.h + s.m + n ≤ 1000000000) (z : Int) :
    Calls Tryz.prog 19 #[.pointer (some ⟨q.c, 0, none⟩), .int .i64 z] w1 fun e w2 => e = .returned (.tuple #[.string (rdCS q.n Q z), .int .i64 (rdCE q.n z)]) ∧ ∃ F'' s'', Cz w w2 q F F'' D Q M cm s (n + 1) s'' ∧ (∀ k, k < w1.heap.size → F'' k → F' k) ∧ (∀ k, F'' k → k < w2.heap.size) ∧ Kp F' w1 w2 := by
  refine (cread_any h.c (Nat.le_trans h.b hb) z).mono ?_
  rintro e w2 ⟨rfl, hC, hk⟩
  refine ⟨rfl, fun j => (F' j ∨ w1.heap.size ≤ j) ∧ j < w2.heap.size, _, ⟨Cas.mono hC (fun k hk h => ⟨h, hk⟩), fun k hk => ?_, h.k.trans hk (fun _ _ h => h) (fun k hk hf => ?_), ?_⟩, fun k hk hf => ?_, fun k hk => hk.2, hk⟩
  · rcases hk.1 with h1 | h1
    · exact h.f k h1
    · exact .inr (Nat.le_trans h.k.size h1)
  · rcases h.f k hf with h1 | h1
    · exact h1
    · omega
  · have := St.use_le q.sz q.n s' z
    have := h.b
    omega
  · rcases hf.1 with h1 | h1
    · exact h1
    · omega
set_option maxRecDepth 100000 in
set_option maxHeartbeats 1600000 in
theorem schanges_any {w : World} {r gP : Nat} {V : Nat → Prop} {q : Cq} {F : Nat → Prop} {D : Dv} {Q : Nat → ByteArray} {M cm : Int} {s : St} {P : List ByteArray} {NL : List (List Chg)} {S : Sw} (hW : Wm w r gP V q.c P NL) (hA : Ag P NL S) (hC : Cst w q F D Q M cm s) (hn : q.n = P.length) (hd : ∀ k, k < w.heap.size → V k → ¬ F k) (hQ : ∀ i, i < P.length → S.base.getD i ⟨#[]⟩ = Q i) (hb : s.h + s.m ≤ 900000000) :
    Calls Tryz.prog 46 #[.pointer (some ⟨r, 0, none⟩)] w fun e w' => ∃ v F' s', e = .returned v ∧ OwC 76 w' w.heap.size v (chgC S.now (chgs S.base S.now)) ∧ Cz w w' q F F' D Q M cm s P.length s' ∧ (∀ k, v.ownBlock = some k → ¬ F' k) := by
  obtain ⟨hl0, hl1⟩ := hA.lens
  obtain ⟨cN, c2, _⟩ := hW.c2
  have c0 := hW.c0
  have HF : Hid (∀ k, k < w.heap.size → V k → ∀ F' : Nat → Prop, (∀ k, F' k → F k ∨ w.heap.size ≤ k) → ¬ F' k) := fun k hk hv F' hf h => by
    rcases hf k h with h1 | h1
    · exact hd k hk hv h1
    · omega
  have HU : Hid (∀ n (W : World), n < P.length → Kp F w W → Calls Tryz.prog 44 #[.pointer (some ⟨r, 0, none⟩), .int .i64 (n : Int)] W fun e w' => e = .returned (.bool (isU S.now n)) ∧ w' = W) := fun n W hn hk => by
    have h := sused_any r gP V q.c P NL (n : Int) W (hW.kept hk hd) hl0 hl1 hA.sP
    have e : usedB P (n : Int) = isU S.now n := by
      unfold usedB
      rw [decide_eq_true ⟨by omega, by omega⟩, Bool.true_and, Int.toNat_natCast, hA.isU]
    rw [e] at h
    exact h
  have HPA : Hid (∀ n (W : World), n < P.length → Kp F w W → W.cell? ⟨gP, n, none⟩ = some (.string (P.getD n ⟨#[]⟩))) := fun n W hn hk => ((hW.kept hk hd).pageAt n hn).1
  have HAG : Hid (∀ n, n < P.length → isU S.now n = true → P.getD n ⟨#[]⟩ = S.now.getD n ⟨#[]⟩) := fun n hn hu => hA.a.us n (by rw [← hA.a.len]; exact hn) hu
  have HLAST : Hid (chgCK S.base S.now P.length = chgC S.now (chgs S.base S.now)) := by show _ = _; rw [hA.a.len]; exact chgCK_all _ _
  have hrV : ¬ F r := hd r hW.lt hW.gg.1
  have HZ0 := hide (Cz.refl hC)
  have HQ := hide hQ
  rw [← HLAST.out]
  obtain ⟨ln, HL⟩ : ∃ ln, Hid (P.length = ln) := ⟨_, rfl⟩
  rw [HL.out] at c2 HU HPA HAG hn hl1 HQ ⊢
  clear hW hA hd hC hQ hl0
  go_enter Tryz.func46, Tryz.ntmps46
  go_wp2
  go_loopw [3, 13] (fun u t wr => ∃ k : Nat, k ≤ ln ∧ t = .int .i64 k ∧ ∃ F' s', OwC 76 wr w.heap.size u (chgCK S.base S.now k) ∧ Cz w wr q F F' D Q M cm s k s' ∧ ∀ j, u.ownBlock = some j → ¬ F' j) (fun _ t _ => ln - (intOf t).toNat)
  case atStart => exact ⟨0, Nat.zero_le _, rfl, F, s, (show OwC _ _ _ _ [] from OwC.nil _ _ _), HZ0.out, (fun j h => by cases h)⟩
  case round =>
    obtain ⟨k, hk, rfl, F', s', hO, hZ, hu3⟩ := hrel
    clear HZ0
    by_cases hlt : k < ln
    · have hki : (k : Int) < (ln : Int) := by omega
      have hiu := HU.out k wr hlt hZ.k
      have hpa := HPA.out k wr hlt hZ.k
      have e2 := hZ.k.cell c2 hrV
      have e0 := hZ.k.cell c0 hrV
      have HSU := hide (chgCK_succ S.base S.now k)
      rw [HQ.out k hlt] at HSU
      have hqu := HQ.out k hlt
      have hag := HAG.out k hlt
      have hrd := hZ.read (by omega) (k : Int)
      have hin : inR q.n (k : Int) = true := inR_iff.2 ⟨by omega, by rw [hn]; exact hki⟩
      have er1 : rdCS q.n Q (k : Int) = Q k := by unfold rdCS; rw [if_pos hin, Int.toNat_natCast]
      have er2 : rdCE q.n (k : Int) = 0 := by unfold rdCE; rw [if_pos hin]
      rw [er1, er2] at hrd
      have HZ := hide hZ
      have HOK := hide hO
      have HU3 := hide hu3
      obtain ⟨X, HX⟩ : ∃ X, Hid (P.getD k ⟨#[]⟩ = X) := ⟨_, rfl⟩
      rw [HX.out] at hpa hag
      obtain ⟨Y, HY⟩ : ∃ Y, Hid (Q k = Y) := ⟨_, rfl⟩
      rw [HY.out] at hrd HSU
      obtain ⟨U, HUU⟩ : ∃ U, Hid (isU S.now k = U) := ⟨_, rfl⟩
      rw [HUU.out] at hiu HSU hag
      have hlen := chgCK_len S.base S.now k
      have HRD := hide hrd
      clear hqu hin er1 er2 hZ hO hu3 hrd
      cases U with
      | false =>
        have HS2 : Hid (chgCK S.base S.now (k + 1) = chgCK S.base S.now k) := by show _ = _; rw [HSU.out]; simp
        clear hag
        go_wp2_with (first
          | (go_at_call 44; refine hiu.mono ?_; rintro e w' ⟨rfl, hw'⟩; obtain rfl := hw'.symm)
          | fail)
        go_roundw
        case rel => exact ⟨k + 1, by omega, by go_num, F', s', by rw [HS2.out]; exact HOK.out, ⟨HZ.out.c, HZ.out.f, HZ.out.k, by have := HZ.out.b; omega⟩, HU3.out⟩
        case measure => simp [intOf]; omega
      | true =>
        rw [← hag rfl] at HSU
        clear hag
        by_cases hxy : X = Y
        · subst hxy
          have HS2 : Hid (chgCK S.base S.now (k + 1) = chgCK S.base S.now k) := by show _ = _; rw [HSU.out]; simp
          have hxx : (X.toList == X.toList) = true := by simp
          go_wp2_with (first
            | (go_at_call 44; refine hiu.mono ?_; rintro e w' ⟨rfl, hw'⟩; obtain rfl := hw'.symm)
            | (go_at_call 19; refine HRD.out.mono ?_; rintro e w2 ⟨rfl, F2, s2, hZ2, hf2, hf2', hk2⟩)
            | fail)
          go_roundw
          case rel => exact ⟨k + 1, by omega, by go_num, F2, s2, by rw [HS2.out]; exact HOK.out.kept hk2 (fun j hj h => HU3.out j hj h), hZ2, fun j hj h => HU3.out j hj (hf2 j (HOK.out.lt j hj).2 h)⟩
          case measure => simp [intOf]; omega
        · have HS2 : Hid (chgCK S.base S.now (k + 1) = chgCK S.base S.now k ++ [⟨(k : Int), X⟩]) := by show _ = _; rw [HSU.out]; simp [hxy]
          have hxx := list_beq_ne (fun e => hxy (Eq.symm e) : Y ≠ X)
          have hws : w.heap.size ≤ wr.heap.size := HZ.out.k.size
          go_upto_region 8 with (first
            | (go_at_call 44; refine hiu.mono ?_; rintro e w' ⟨rfl, hw'⟩; obtain rfl := hw'.symm)
            | (go_at_call 19; refine HRD.out.mono ?_; rintro e w2 ⟨rfl, F2, s2, hZ2, hf2, hf2', hk2⟩)
            | fail)
          have hO2 := HOK.out.kept hk2 (fun j hj h => HU3.out j hj h)
          have hs2 := hk2.size
          obtain ⟨v4, w4, hap, hO4, hk4, hv4⟩ := app_chg w2 w.heap.size u3 (chgCK S.base S.now k) ⟨(k : Int), X⟩ hO2 (by omega) (by omega)
          have hb3 : ∀ j, u3.ownBlock = some j → w.heap.size ≤ j ∧ ¬ F2 j := fun j hj => ⟨(hO2.lt j hj).1, fun h => HU3.out j hj (hf2 j (HOK.out.lt j hj).2 h)⟩
          have hZ4 := hZ2.own hk4 hb3
          have HFIN : Hid (OwC 76 w4 w.heap.size v4 (chgCK S.base S.now (k + 1)) ∧ Cz w w4 q F F2 D Q M cm s (k + 1) s2 ∧ ∀ j, v4.ownBlock = some j → ¬ F2 j) := by
            refine ⟨by rw [HS2.out]; exact hO4, hZ4, fun j hj h => ?_⟩
            rcases hv4 j hj with e | e
            · exact (hb3 j e).2 h
            · have := hf2' j h
              omega
          clear hO4 hk4 hv4 hZ4 hb3 hO2 hZ2
          go_wp2_with (first
            | (at_builtin; refine rwpList_app_at rfl (.tmp 34) (.tmp 38) 73 73 rfl _ _ rfl rfl hap ?_)
            | fail)
          go_roundw
          case rel => exact ⟨k + 1, by omega, by go_num, F2, s2, HFIN.out⟩
          case measure => simp [intOf]; omega
    · have hkl : ln = k := by omega
      subst hkl
      go_wp2
      go_ret
      exact ⟨_, F', s', rfl, hO, hZ, hu3⟩

end Go.Proofs.YtmnedhlgplkfhaaGreat
