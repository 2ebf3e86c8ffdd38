/- The document's Set of timers. Conditions: those that each theorem states. -/
import Derived.Test.YtpoahegccjgnjaaYRef
namespace Go.Proofs.Ytpoahegccjgnjaa
open Go Go.RowKit
set_option linter.unusedVariables false
theorem ins_at {p : Int × Int} : ∀ {M : List (Int × Int)} {k : Nat}, k ≤ M.length → (∀ j (hj : j < M.length), j < k → Ap M[j] p) → (∀ hk : k < M.length, ¬ Ap M[k] p) → M.take k ++ [p] ++ M.drop k = insL p M
  | [], k, hk, _, _ => by
    have : k = 0 := by simpa using hk
    subst this
    simp [insL]
  | q :: M, 0, _, _, hn => by
    have h0 : ¬ Ap q p := hn (by simp)
    unfold insL
    rw [List.takeWhile_cons_of_neg (by simpa using h0), List.dropWhile_cons_of_neg (by simpa using h0)]
    rfl
  | q :: M, k + 1, hk, ha, hn => by
    have h0 : Ap q p := ha 0 (by simp) (by omega)
    have ih := ins_at (M := M) (k := k) (p := p) (by simpa using hk) (fun j hj hjk => ha (j + 1) (by simpa using hj) (by omega)) (fun h => hn (by simpa using h))
    unfold insL at ih ⊢
    rw [List.takeWhile_cons_of_pos (by simpa using h0), List.dropWhile_cons_of_pos (by simpa using h0), List.cons_append, ← ih]
    simp
theorem one_rq (w : World) (p : Int × Int) (g : Nat) (h : w.heap[g]? = some (.cells #[.int .i64 p.2, .int .i64 p.1] 42 (0, 0))) : Rq w.heap.size w (.slice (some ⟨g, 0, none⟩) 1 1) [p] := by
  refine ⟨some ⟨g, 0, none⟩, 1, rfl, Nat.le_refl _, by decide, fun i hi => ⟨g, 0, rfl, (Array.getElem?_eq_some_iff.1 h).1, ?_⟩⟩
  have : i = 0 := by simp at hi; omega
  subst this
  exact ⟨by rw [cell_of_row _ _ (0 + 0 * 2) _ _ (0, 0) h]; rfl, by rw [cell_of_row _ _ (0 + 0 * 2 + 1) _ _ (0, 0) h]; rfl⟩
/-- Two appends behind the first one. -/
theorem app23 {W w2 : World} {B k : Nat} {v2 x3 : Value} {M : List (Int × Int)} {p : Int × Int} {g : Nat} (hK : Kp none' W w2) (hO2 : OwQ w2 B v2 (M.take k)) (hB : B ≤ W.heap.size) (hp : w2.heap[g]? = some (.cells #[.int .i64 p.2, .int .i64 p.1] 42 (0, 0))) (hX : ∀ W', Kp none' W W' → Rq W.heap.size W' x3 (M.drop k)) (hBB : W.heap.size ≤ B) (hl : M.length ≤ 1000000) :
    ∃ v3 w3 v4 w4, (Builtin.append_ #[28, 28] 28 #[v2, .slice (some ⟨g, 0, none⟩) 1 1]).run Try.prog w2 = .ok v3 w3 ∧ (Builtin.append_ #[28, 28] 28 #[v3, x3]).run Try.prog w3 = .ok v4 w4 ∧
      Kp none' W w3 ∧ Kp none' W w4 ∧ OwQ w4 B v4 (M.take k ++ [p] ++ M.drop k) := by
  have ht : (M.take k).length ≤ M.length := by rw [List.length_take]; omega
  have hd : (M.drop k).length ≤ M.length := by rw [List.length_drop]; omega
  obtain ⟨v3, w3, h3, hO3, hg3, -⟩ := appQ w2 B v2 _ (M.take k) [p] hO2 (one_rq w2 p g hp).src (Nat.le_trans hB hK.size) (by simp; omega)
  have hK3 : Kp none' W w3 := hK.trans (Kp.ofGrown hg3 (S := fun k => v2.ownBlock = some k) (fun k hk _ => hk)) (fun _ _ h => h) (fun k hk he => absurd hk (by have := (hO2.lt k he).1; omega))
  obtain ⟨v4, w4, h4, hO4, hg4, -⟩ := appQ w3 B v3 x3 (M.take k ++ [p]) (M.drop k) hO3 (hX w3 hK3).src (Nat.le_trans hB hK3.size) (by rw [List.length_append]; simp; omega)
  have hK4 : Kp none' W w4 := hK3.trans (Kp.ofGrown hg4 (S := fun k => v3.ownBlock = some k) (fun k hk _ => hk)) (fun _ _ h => h) (fun k hk he => absurd hk (by have := (hO3.lt k he).1; omega))
  exact ⟨v3, w3, v4, w4, h3, h4, hK3, hK4, hO4⟩
/-- What an append makes; held so that no other world is tried by unfolding. -/
structure AppOk (t : TypeId) (v x : Value) (w : World) (v' : Value) (w' : World) : Prop where
  run : (Builtin.append_ #[t, t] t #[v, x]).run Try.prog w = .ok v' w'
theorem nstepO_app_at {w : World} {ops : Array Oper} {o : Oper} {a : Act} {K : Act → World → Prop} {Q : Exit → Act → World → Prop} {E : Prop} {t : TypeId} {v xv : Value} {v' : Value} {w' : World} (hr : AppOk t v xv w v' w') (hgd : o.guard = none) (s x : Operand)
    (ho : o.op = .call { callee := .builtin .append, args := #[s, x], argTypes := #[t, t] }) (hty : o.type = t) (hs : a.eval s = v) (hx : a.eval x = xv)
    (h : K (a.put o.dst v') w') : if Region.wanted o (yielded ops a.tmps) = true then Oper.wp Try.prog o a w K Q else E :=
  nstepQ_app_at hgd s x t t ho v xv hs hx (by rw [hty]; exact hr.run) h
set_option maxRecDepth 100000 in
set_option maxHeartbeats 12800000 in
theorem rset_any (q : Nat) (F : Nat → Prop) (v : Value) (L : List (Int × Int)) (id till : Int) (w : World) (h : Rf w q F v L) (hF : ∀ k, F k → k < w.heap.size) (hl : L.length ≤ 1000000) (hd : (L.map (·.2)).Nodup) :
    Calls Try.prog 12 #[.pointer (some ⟨q, 0, none⟩), .int .i64 id, .int .i64 till] w fun e w' => e = .returned (.tuple #[]) ∧ ∃ v', Rf w' q F v' (setL id till L) ∧ Kp (only q) w w' := by
  have HD := hide (rdrop_any q F v L id w h hF hl hd)
  have hml : (dropL id L).length ≤ 1000000 := Nat.le_trans (List.length_filter_le _ _) hl
  clear h
  obtain ⟨M, HM⟩ : ∃ M, Hid (dropL id L = M) := ⟨_, rfl⟩
  have HS : Hid (setL id till L = insL (till, id) M) := by rw [← HM.out]; exact rfl
  rw [HS.out]
  rw [HM.out] at HD hml
  clear HS HM hd hl
  obtain ⟨R, HR⟩ : ∃ R, Hid (insL (till, id) M = R) := ⟨_, rfl⟩
  rw [HR.out]
  go_enter Try.func12, Try.ntmps12
  go_upto_region 1 with (go_at_call 14; refine HD.out.mono ?_; clear HD; rintro e w1 ⟨rfl, v1, h1, k1⟩)
  have hF1 : ∀ k, F k → k < w1.heap.size := fun k hk => Nat.lt_of_lt_of_le (hF k hk) k1.size
  obtain ⟨a, c, e0, hlc, ho⟩ := h1.r.at
  have hc := h1.c
  have hf := h1.f
  subst e0
  have HO := hide ho
  have Hq := hide h1
  have HF1 := hide hF1
  clear h1 ho hF hF1
  go_wp2
  go_loopw [6] (fun t wr => ∃ i : Nat, i ≤ M.length ∧ t = .int .i64 i ∧ Hid (∀ j (hj : j < M.length), j < i → Ap M[j] (till, id)) ∧ wr = w1) (fun t _ => M.length - (intOf t).toNat)
  case atStart => exact ⟨0, Nat.zero_le _, rfl, hide (fun j _ h => absurd h (by omega)), rfl⟩
  case round =>
    obtain ⟨k, hk, rfl, hN, rfl⟩ := hrel
    by_cases hgo : ∃ hlt : k < M.length, Ap M[k] (till, id)
    · obtain ⟨hlt, ha⟩ := hgo
      have hii : (k : Int) < (M.length : Int) := by omega
      obtain ⟨b, off, rfl, c0, c1⟩ := HO.out k hlt
      obtain ⟨p, HP⟩ : ∃ p, Hid (M[k] = p) := ⟨_, hide rfl⟩
      rw [HP.out] at c0 c1 ha
      obtain ⟨pt, pi⟩ := p
      dsimp only at c0 c1
      have hN2 : Hid (∀ j (hj : j < M.length), j < k + 1 → Ap M[j] (till, id)) := fun j hj hjk => by
        by_cases e : j = k
        · subst e
          rw [HP.out]
          exact ha
        · exact hN.out j hj (by omega)
      by_cases h1 : pt < till
      · clear ha
        go_wp2
        go_roundw
        case rel => exact ⟨k + 1, by omega, by go_num, hN2, by first | rfl | trivial⟩
        case measure => simp [intOf]; omega
      · have h2 : (pt == till) = true := by unfold Ap at ha; simp at ha ⊢; omega
        have h3 : pi < id := by unfold Ap at ha; simp at ha; omega
        clear ha
        go_wp2
        go_roundw
        case rel => exact ⟨k + 1, by omega, by go_num, hN2, by first | rfl | trivial⟩
        case measure => simp [intOf]; omega
    · have HI := hide (ins_at hk hN.out (fun hlt ha => hgo ⟨hlt, ha⟩))
      have HGO := hide hgo
      clear hgo
      go_upto_region 2 with fail
      go_cut [52] from 10 to 54 (fun t W => t = .bool false ∧ wr = W)
      case rest =>
        obtain ⟨rfl, rfl⟩ := hcut
        have HI2 := hide (HI.out.trans HR.out)
        have hR : Rq wr.heap.size wr.drew (.slice a M.length c) M := Hq.out.r.keptV (Kp.drew none' _) (fun _ _ h => h)
        have hK0 : Kp none' wr wr.drew := Kp.drew _ _
        have c1 : wr.drew.cell? ⟨q, 0, none⟩ = _ := hc
        have hkl : (k : Int) ≤ (M.length : Int) := by omega
        have hkc : (k : Int) ≤ (c : Int) := by omega
        have hlc' : (M.length : Int) ≤ (c : Int) := by omega
        by_cases hci : c = k
        · subst hci
          have hX : ∀ W', Kp none' wr.drew W' → Rq wr.drew.heap.size W' (.slice a 0 0) (M.drop c) := fun W' hW => (hR.keptN hW).drop0 c hk rfl
          obtain ⟨v2, w2, hq2, hO2, hg2, -⟩ := appQ wr.drew wr.drew.heap.size (.slice none 0 0) _ [] (M.take c) (OwQ.nil _ _) (hR.take c hk).src (Nat.le_refl _) (by simp; omega)
          rw [List.nil_append] at hO2
          have hK2 : Kp none' wr.drew w2 := Kp.ofGrown hg2 (fun k hk _ => by cases hk)
          have kA : Kp none' w2 (w2.alloc (.cells #[.int .i64 id, .int .i64 till] 42)) := Kp.alloc _ _ _
          have pA := heap_alloc_new w2 (.cells #[.int .i64 id, .int .i64 till] 42)
          obtain ⟨v3, w3, v4, w4, hq3, hq4, hK3, hK4, hO4⟩ := app23 (p := (till, id)) (hK2.then kA) (hO2.keptN kA) (Nat.le_refl _) pA hX (Nat.le_refl _) hml
          have kB : Kp none' wr.drew (wr.alloc (.cells #[.int .i64 id, .int .i64 till] 42)).drew := Kp.alloc none' wr.drew (.cells #[.int .i64 id, .int .i64 till] 42)
          have pB : (wr.alloc (.cells #[.int .i64 id, .int .i64 till] 42)).drew.heap[wr.heap.size]? = _ := heap_alloc_new wr (.cells #[.int .i64 id, .int .i64 till] 42)
          obtain ⟨u2, x2, hr2, hP2, hh2, -⟩ := appQ (wr.alloc (.cells #[.int .i64 id, .int .i64 till] 42)).drew wr.drew.heap.size (.slice none 0 0) _ [] (M.take c) (OwQ.nil _ _) ((hR.keptN kB).take c hk).src kB.size (by simp; omega)
          rw [List.nil_append] at hP2
          have hL2 : Kp none' (wr.alloc (.cells #[.int .i64 id, .int .i64 till] 42)).drew x2 := Kp.ofGrown hh2 (fun k hk _ => by cases hk)
          have pB2 := hL2.block wr.heap.size (by show wr.heap.size < (wr.alloc (.cells #[.int .i64 id, .int .i64 till] 42)).heap.size; rw [World.size_alloc]; omega) (fun h => h)
          rw [pB] at pB2
          obtain ⟨u3, x3, u4, x4, hr3, hr4, hL3, hL4, hP4⟩ := app23 (p := (till, id)) (kB.then hL2) hP2 (Nat.le_refl _) pB2 hX (Nat.le_refl _) hml
          have d1 : (wr.alloc (.cells #[.int .i64 id, .int .i64 till] 42)).cell? ⟨q, 0, none⟩ = _ := kB.cell c1 (fun h => h)
          have d2 := hK2.cell c1 (fun h => h)
          have d2a := (hK2.then kA).cell c1 (fun h => h)
          have d3 := hK3.cell c1 (fun h => h)
          have d4 := hK4.cell c1 (fun h => h)
          have e2 := (kB.then hL2).cell c1 (fun h => h)
          have e3 := hL3.cell c1 (fun h => h)
          have e4 := hL4.cell c1 (fun h => h)
          have hf0 : wr.drew.frozen? ⟨q, 0, none⟩ = false := hf
          have f4 : w4.frozen? ⟨q, 0, none⟩ = false := by rw [hK4.frozen (lt_of_cell c1) (fun h => h)]; exact hf0
          have g4 : x4.frozen? ⟨q, 0, none⟩ = false := by rw [hL4.frozen (lt_of_cell c1) (fun h => h)]; exact hf0
          have hFd : ∀ k, F k → k < wr.drew.heap.size := HF1.out
          have hta := Hq.out.turn hFd (Nat.le_refl _) (hK0.then hK4) hO4
          have htb := Hq.out.turn hFd (Nat.le_refl _) (hK0.then hL4) hP4
          rw [HI2.out] at hta htb
          have HTA := hide hta
          have HTB := hide htb
          obtain ⟨a4, k4, ea4, -⟩ := hO4.rq.at
          obtain ⟨b4, l4, eb4, -⟩ := hP4.rq.at
          obtain ⟨n4, Hn4⟩ : ∃ m, Hid ((M.take c ++ [(till, id)] ++ M.drop c).length = m) := ⟨_, rfl⟩
          rw [Hn4.out] at ea4 eb4
          subst ea4 eb4
          clear hta htb hO4 hO2 hP2 hP4 hg2 hh2 hX hR kA pA kB pB pB2 hK2 hK3 hK4 hL2 hL3 hL4
          have HQ2 := AppOk.mk hq2
          have HQ3 := AppOk.mk hq3
          have HQ4 := AppOk.mk hq4
          have HR2 := AppOk.mk hr2
          have HR3 := AppOk.mk hr3
          have HR4 := AppOk.mk hr4
          clear hq2 hq3 hq4 hr2 hr3 hr4
          go_wp2_with fail
          go_region_law (first
            | (refine nstepO_app_at HQ2 (by rfl) (.const (.slice none 0 0)) (.tmp 61) (by rfl) (by rfl) (by rfl) (by rfl) ?_)
            | (refine nstepO_app_at HR2 (by rfl) (.const (.slice none 0 0)) (.tmp 61) (by rfl) (by rfl) (by rfl) (by rfl) ?_)
            | (refine nstepO_app_at HQ3 (by rfl) (.tmp 62) (.tmp 66) (by rfl) (by rfl) (by rfl) (by rfl) ?_)
            | (refine nstepO_app_at HR3 (by rfl) (.tmp 62) (.tmp 66) (by rfl) (by rfl) (by rfl) (by rfl) ?_)
            | (refine nstepO_app_at HQ4 (by rfl) (.tmp 67) (.tmp 73) (by rfl) (by rfl) (by rfl) (by rfl) ?_)
            | (refine nstepO_app_at HR4 (by rfl) (.tmp 67) (.tmp 73) (by rfl) (by rfl) (by rfl) (by rfl) ?_)
            | fail)
          all_goals first | go_end0 | (refine bodyPost_end (results_none rfl _ _ _) rfl ?_) | ((try simp only [Exit.inBlock, Exit.then]); refine bodyPost_ret (results_none rfl _ _ _) rfl ?_)
          all_goals first
            | exact ⟨rfl, _, HTA.out.1, k1.then HTA.out.2⟩
            | exact ⟨rfl, _, HTB.out.1, k1.then HTB.out.2⟩
        · have hX : ∀ W', Kp none' wr.drew W' → Rq wr.drew.heap.size W' (.slice (a.map (fun x => x.add (k * 2))) (M.length - k) (c - k)) (M.drop k) := fun W' hW => (hR.keptN hW).dropM k hk
          obtain ⟨v2, w2, hq2, hO2, hg2, -⟩ := appQ wr.drew wr.drew.heap.size (.slice none 0 0) _ [] (M.take k) (OwQ.nil _ _) (hR.take k hk).src (Nat.le_refl _) (by simp; omega)
          rw [List.nil_append] at hO2
          have hK2 : Kp none' wr.drew w2 := Kp.ofGrown hg2 (fun k hk _ => by cases hk)
          have kA : Kp none' w2 (w2.alloc (.cells #[.int .i64 id, .int .i64 till] 42)) := Kp.alloc _ _ _
          have pA := heap_alloc_new w2 (.cells #[.int .i64 id, .int .i64 till] 42)
          obtain ⟨v3, w3, v4, w4, hq3, hq4, hK3, hK4, hO4⟩ := app23 (p := (till, id)) (hK2.then kA) (hO2.keptN kA) (Nat.le_refl _) pA hX (Nat.le_refl _) hml
          have kB : Kp none' wr.drew (wr.alloc (.cells #[.int .i64 id, .int .i64 till] 42)).drew := Kp.alloc none' wr.drew (.cells #[.int .i64 id, .int .i64 till] 42)
          have pB : (wr.alloc (.cells #[.int .i64 id, .int .i64 till] 42)).drew.heap[wr.heap.size]? = _ := heap_alloc_new wr (.cells #[.int .i64 id, .int .i64 till] 42)
          obtain ⟨u2, x2, hr2, hP2, hh2, -⟩ := appQ (wr.alloc (.cells #[.int .i64 id, .int .i64 till] 42)).drew wr.drew.heap.size (.slice none 0 0) _ [] (M.take k) (OwQ.nil _ _) ((hR.keptN kB).take k hk).src kB.size (by simp; omega)
          rw [List.nil_append] at hP2
          have hL2 : Kp none' (wr.alloc (.cells #[.int .i64 id, .int .i64 till] 42)).drew x2 := Kp.ofGrown hh2 (fun k hk _ => by cases hk)
          have pB2 := hL2.block wr.heap.size (by show wr.heap.size < (wr.alloc (.cells #[.int .i64 id, .int .i64 till] 42)).heap.size; rw [World.size_alloc]; omega) (fun h => h)
          rw [pB] at pB2
          obtain ⟨u3, x3, u4, x4, hr3, hr4, hL3, hL4, hP4⟩ := app23 (p := (till, id)) (kB.then hL2) hP2 (Nat.le_refl _) pB2 hX (Nat.le_refl _) hml
          have d1 : (wr.alloc (.cells #[.int .i64 id, .int .i64 till] 42)).cell? ⟨q, 0, none⟩ = _ := kB.cell c1 (fun h => h)
          have d2 := hK2.cell c1 (fun h => h)
          have d2a := (hK2.then kA).cell c1 (fun h => h)
          have d3 := hK3.cell c1 (fun h => h)
          have d4 := hK4.cell c1 (fun h => h)
          have e2 := (kB.then hL2).cell c1 (fun h => h)
          have e3 := hL3.cell c1 (fun h => h)
          have e4 := hL4.cell c1 (fun h => h)
          have hf0 : wr.drew.frozen? ⟨q, 0, none⟩ = false := hf
          have f4 : w4.frozen? ⟨q, 0, none⟩ = false := by rw [hK4.frozen (lt_of_cell c1) (fun h => h)]; exact hf0
          have g4 : x4.frozen? ⟨q, 0, none⟩ = false := by rw [hL4.frozen (lt_of_cell c1) (fun h => h)]; exact hf0
          have hFd : ∀ k, F k → k < wr.drew.heap.size := HF1.out
          have hta := Hq.out.turn hFd (Nat.le_refl _) (hK0.then hK4) hO4
          have htb := Hq.out.turn hFd (Nat.le_refl _) (hK0.then hL4) hP4
          rw [HI2.out] at hta htb
          have HTA := hide hta
          have HTB := hide htb
          obtain ⟨a4, k4, ea4, -⟩ := hO4.rq.at
          obtain ⟨b4, l4, eb4, -⟩ := hP4.rq.at
          obtain ⟨n4, Hn4⟩ : ∃ m, Hid ((M.take k ++ [(till, id)] ++ M.drop k).length = m) := ⟨_, rfl⟩
          rw [Hn4.out] at ea4 eb4
          subst ea4 eb4
          have haq : ∀ (x : Addr), x.spot = none → x.add (k * 2) = ⟨x.block, x.off + k * 2, none⟩ := fun x hx => by cases x; simp at hx; subst hx; exact addr_plainQ _ _ _
          clear hta htb hO4 hO2 hP2 hP4 hg2 hh2 hX hR kA pA kB pB pB2 hK2 hK3 hK4 hL2 hL3 hL4
          have HQ2 := AppOk.mk hq2
          have HQ3 := AppOk.mk hq3
          have HQ4 := AppOk.mk hq4
          have HR2 := AppOk.mk hr2
          have HR3 := AppOk.mk hr3
          have HR4 := AppOk.mk hr4
          clear hq2 hq3 hq4 hr2 hr3 hr4
          go_wp2_with fail
          go_region_law (first
            | (refine nstepO_app_at HQ2 (by rfl) (.const (.slice none 0 0)) (.tmp 61) (by rfl) (by rfl) (by rfl) (by rfl) ?_)
            | (refine nstepO_app_at HR2 (by rfl) (.const (.slice none 0 0)) (.tmp 61) (by rfl) (by rfl) (by rfl) (by rfl) ?_)
            | (refine nstepO_app_at HQ3 (by rfl) (.tmp 62) (.tmp 66) (by rfl) (by rfl) (by rfl) (by rfl) ?_)
            | (refine nstepO_app_at HR3 (by rfl) (.tmp 62) (.tmp 66) (by rfl) (by rfl) (by rfl) (by rfl) ?_)
            | (refine nstepO_app_at HQ4 (by rfl) (.tmp 67) (.tmp 73) (by rfl) (by rfl) (by rfl) (by rfl) ?_)
            | (refine nstepO_app_at HR4 (by rfl) (.tmp 67) (.tmp 73) (by rfl) (by rfl) (by rfl) (by rfl) ?_)
            | fail)
          all_goals first | go_end0 | (refine bodyPost_end (results_none rfl _ _ _) rfl ?_) | ((try simp only [Exit.inBlock, Exit.then]); refine bodyPost_ret (results_none rfl _ _ _) rfl ?_)
          all_goals first
            | exact ⟨rfl, _, HTA.out.1, k1.then HTA.out.2⟩
            | exact ⟨rfl, _, HTB.out.1, k1.then HTB.out.2⟩
      case first =>
        have hgo := HGO.out
        by_cases hlt : k < M.length
        · have hii : (k : Int) < (M.length : Int) := by omega
          obtain ⟨b, off, rfl, c0, c1⟩ := HO.out k hlt
          have ha : ¬ Ap M[k] (till, id) := fun ha => hgo ⟨hlt, ha⟩
          obtain ⟨p, HP⟩ : ∃ p, Hid (M[k] = p) := ⟨_, hide rfl⟩
          rw [HP.out] at c0 c1 ha
          obtain ⟨pt, pi⟩ := p
          dsimp only at c0 c1
          have h1 : ¬ pt < till := by unfold Ap at ha; simp at ha; omega
          by_cases h2 : pt = till
          · have h2' : (pt == till) = true := by simpa using h2
            have h3 : ¬ pi < id := by unfold Ap at ha; simp at ha; omega
            clear ha h2 hgo
            go_wp2
            go_meet
            exact ⟨rfl, rfl⟩
          · have h2' : (pt == till) = false := by simpa using h2
            clear ha hgo
            go_wp2
            go_meet
            exact ⟨rfl, rfl⟩
        · obtain rfl : k = M.length := by omega
          clear hgo
          go_wp2
          go_meet
          exact ⟨rfl, rfl⟩

end Go.Proofs.Ytpoahegccjgnjaa
