/- The document's Due of timers. Conditions: those that each theorem states. -/
import Derived.Test.YtpoahegccjgnjaaYRef
import Derived.Test.YtpoahegccjgnjaaYOnc
namespace Go.Proofs.Ytpoahegccjgnjaa
open Go Go.RowKit
set_option linter.unusedVariables false
theorem due_at {now : Int} : ∀ {L : List (Int × Int)} {k : Nat}, k ≤ L.length → (∀ j (hj : j < L.length), j < k → L[j].1 ≤ now) → (∀ hk : k < L.length, ¬ L[k].1 ≤ now) → (L.take k).map (·.2) = dueL now L ∧ L.drop k = restL now L
  | [], k, hk, _, _ => by
    have : k = 0 := by simpa using hk
    subst this
    exact ⟨rfl, rfl⟩
  | q :: M, 0, _, _, hn => by
    have h0 : ¬ q.1 ≤ now := hn (by simp)
    unfold dueL restL
    rw [List.takeWhile_cons_of_neg (by simpa using h0), List.dropWhile_cons_of_neg (by simpa using h0)]
    exact ⟨rfl, rfl⟩
  | q :: M, k + 1, hk, ha, hn => by
    have h0 : q.1 ≤ now := ha 0 (by simp) (by omega)
    have ih := due_at (L := M) (k := k) (now := now) (by simpa using hk) (fun j hj hjk => ha (j + 1) (by simpa using hj) (by omega)) (fun h => hn (by simpa using h))
    unfold dueL restL at ih ⊢
    rw [List.takeWhile_cons_of_pos (by simpa using h0), List.dropWhile_cons_of_pos (by simpa using h0), List.take_succ_cons, List.map_cons, List.map_cons, ih.1, List.drop_succ_cons, ih.2]
    exact ⟨rfl, rfl⟩
theorem Rf.cut {w w4 : World} {q : Nat} {F : Nat → Prop} {a a' : Option Addr} {n c n' c' : Nat} {L L4 : List (Int × Int)} (h : Rf w q F (.slice a n c) L) (hk : Kp none' w w4) (hr : Rq w4.heap.size w4 (.slice a' n' c') L4) (hb : ∀ b off, a' = some ⟨b, off, none⟩ → ∃ o, a = some ⟨b, o, none⟩) : Rf (w4.setCell ⟨q, 0, none⟩ (.slice a' n' c')) q F (.slice a' n' c') L4 ∧ Kp (only q) w (w4.setCell ⟨q, 0, none⟩ (.slice a' n' c')) := by
  have hql := lt_of_cell h.c
  have k4 : Kp (only q) w4 (w4.setCell ⟨q, 0, none⟩ (.slice a' n' c')) := Kp.setCell _ _ _ _ rfl
  have hs : (w4.setCell ⟨q, 0, none⟩ (.slice a' n' c')).heap.size = w4.heap.size := by simp
  have hb' : ∀ b, hasB (.slice a' n' c') b → ¬ F b ∧ b ≠ q ∧ b < w.heap.size := fun b hx => by
    obtain ⟨off, m, d, e⟩ := hx
    cases e
    obtain ⟨o, e2⟩ := hb b off rfl
    exact h.nb b ⟨o, n, c, by rw [e2]⟩
  refine ⟨⟨World.cell?_setCell_same _ _ _ (hk.cell h.c (fun h => h)), by rw [World.frozen?_setCell, hk.frozen hql (fun h => h)]; exact h.f, ?_, h.nq, fun b hx => ?_⟩, (hk.mono (fun _ _ h => h.elim)).then k4⟩
  · rw [hs]
    exact hr.keptV k4 (fun b hx e => (hb' b hx).2.1 e)
  · have := hb' b hx
    have h2 := hk.size
    exact ⟨this.1, this.2.1, by rw [hs]; omega⟩
set_option maxRecDepth 100000 in
set_option maxHeartbeats 3200000 in
theorem rdue_any (q : Nat) (F : Nat → Prop) (v : Value) (L : List (Int × Int)) (now : Int) (w : World) (h : Rf w q F v L) (hl : L.length ≤ 1000000) :
    Calls Try.prog 17 #[.pointer (some ⟨q, 0, none⟩), .int .i64 now] w fun e w' => ∃ u v', e = .returned u ∧ Ow (Value.int .i64) 3 w' w.heap.size u (dueL now L) ∧ Rf w' q F v' (restL now L) ∧ Kp (only q) w w' := by
  obtain ⟨a, c, e0, hlc, ho⟩ := h.r.at
  have hc := h.c
  have hf := h.f
  subst e0
  have HO := hide ho
  have Hq := hide h
  have hql := lt_of_cell hc
  clear h ho
  go_enter Try.func17, Try.ntmps17
  go_wp2
  go_loopw [5, 6] (fun u t wr => ∃ k : Nat, k ≤ L.length ∧ t = .int .i64 k ∧ Hid (∀ j (hj : j < L.length), j < k → L[j].1 ≤ now) ∧ Ow (Value.int .i64) 3 wr w.heap.size u ((L.take k).map (·.2)) ∧ Kp none' w wr) (fun _ t _ => L.length - (intOf t).toNat)
  case atStart => exact ⟨0, Nat.zero_le _, rfl, hide (fun j _ h => absurd h (by omega)), Ow.nil _ _ _ _, Kp.refl _ _⟩
  case round =>
    obtain ⟨k, hk, rfl, hN, hO, hK⟩ := hrel
    have d := hK.cell hc (fun h => h)
    by_cases hgo : ∃ hlt : k < L.length, L[k].1 ≤ now
    · obtain ⟨hlt, hle⟩ := hgo
      have hii : (k : Int) < (L.length : Int) := by omega
      obtain ⟨b, off, rfl, c0, c1⟩ := HO.out k hlt
      have d0 := hK.cell c0 (fun h => h)
      have d1 := hK.cell c1 (fun h => h)
      have et : L.take (k + 1) = L.take k ++ [L[k]] := List.take_succ_eq_append_getElem hlt
      have HET := hide et
      obtain ⟨p, HP⟩ : ∃ p, Hid (L[k] = p) := ⟨_, hide rfl⟩
      rw [HP.out] at d0 d1 hle HET
      clear c0 c1 et
      obtain ⟨pt, pi⟩ := p
      dsimp only at d0 d1 hle
      have hN2 : Hid (∀ j (hj : j < L.length), j < k + 1 → L[j].1 ≤ now) := fun j hj hjk => by
        by_cases e : j = k
        · subst e
          rw [HP.out]
          exact hle
        · exact hN.out j hj (by omega)
      obtain ⟨u', w2, hr, hO2, hg2⟩ := app_i wr w.heap.size _ ((L.take k).map (·.2)) pi hO hK.size (by rw [List.length_map, List.length_take]; omega)
      have hK2 : Kp none' w w2 := (hK.then (Kp.alloc _ _ _)).trans (Kp.ofGrown hg2 (S := fun g => u5.ownBlock = some g) (fun g hg _ => hg)) (fun _ _ h => h) (fun g hg hu => by have := (hO.lt g hu).1; omega)
      have HO2 := hide hO2
      clear hO hO2
      go_upto_region 4 with fail
      go_upto_region 5 with (at_builtin; refine wpList_app_at rfl (.tmp 26) (.tmp 35) 37 37 rfl _ _ rfl rfl hr ?_)
      clear hr
      go_wp2
      go_roundw
      case rel => exact ⟨k + 1, by omega, by go_num, hN2, by rw [HET.out, List.map_append]; exact HO2.out, hK2⟩
      case measure => simp [intOf]; omega
    · have HGO := hide hgo
      have HDA := hide (due_at hk hN.out (fun hlt hle => hgo ⟨hlt, hle⟩))
      clear hgo
      go_upto_region 3 with fail
      go_cut [25] from 7 to 38 (fun t W => t = .bool false ∧ wr = W)
      case rest =>
        obtain ⟨rfl, rfl⟩ := hcut
        have hkl : (k : Int) ≤ (L.length : Int) := by omega
        have hkc : (k : Int) ≤ (c : Int) := by omega
        have hlc' : (L.length : Int) ≤ (c : Int) := by omega
        have hf2 : wr.frozen? ⟨q, 0, none⟩ = false := by rw [hK.frozen hql (fun h => h)]; exact hf
        have hR : Rq wr.heap.size wr (.slice a L.length c) L := (Hq.out.r.keptN hK).up hK.size
        rw [HDA.out.1] at hO
        have HO5 := hide hO
        clear hO
        by_cases hci : c = k
        · subst hci
          have hRc := hR.drop0 c hk rfl
          rw [HDA.out.2] at hRc
          have hT := hide (Hq.out.cut hK hRc (fun b off e => ⟨off, e⟩))
          clear hR hRc
          go_wp2
          go_ret
          exact ⟨_, _, rfl, HO5.out.kept (Kp.setCell (S := only q) _ _ _ _ rfl) (fun g hg e => by have := (HO5.out.lt g hg).1; have : g = q := e; omega), hT.out.1, hT.out.2⟩
        · have hRc := hR.dropM k hk
          rw [HDA.out.2] at hRc
          have hT := hide (Hq.out.cut hK hRc (fun b off e => by
            rcases Nat.eq_zero_or_pos k with h0 | h0
            · subst h0
              cases a with
              | none => cases e
              | some x =>
                simp [Addr.add] at e
                exact ⟨off, by rw [e]⟩
            · obtain ⟨b0, o0, e0, -⟩ := HO.out 0 (by omega)
              rw [e0] at e
              simp only [Option.map_some, addr_plainQ] at e
              cases e
              exact ⟨o0, e0⟩))
          clear hR hRc
          go_wp2
          go_ret
          exact ⟨_, _, rfl, HO5.out.kept (Kp.setCell (S := only q) _ _ _ _ rfl) (fun g hg e => by have := (HO5.out.lt g hg).1; have : g = q := e; omega), hT.out.1, hT.out.2⟩
      case first =>
        have hgo := HGO.out
        by_cases hlt : k < L.length
        · have hii : (k : Int) < (L.length : Int) := by omega
          obtain ⟨b, off, rfl, c0, c1⟩ := HO.out k hlt
          have ha : ¬ L[k].1 ≤ now := fun ha => hgo ⟨hlt, ha⟩
          have d1 := hK.cell c1 (fun h => h)
          generalize L[k] = p at *
          clear hgo c0 c1
          go_wp2
          go_meet
          exact ⟨rfl, rfl⟩
        · obtain rfl : k = L.length := by omega
          clear hgo
          go_wp2
          go_meet
          exact ⟨rfl, rfl⟩

end Go.Proofs.Ytpoahegccjgnjaa
