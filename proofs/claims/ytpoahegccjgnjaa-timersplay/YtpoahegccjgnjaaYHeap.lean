/- container/heap over those who wait: up and down. Conditions: those that each theorem states. -/
import Derived.Test.YtpoahegccjgnjaaYDefs
namespace Go.Proofs.Ytpoahegccjgnjaa
open Go Go.RowKit
set_option linter.unusedVariables false
theorem m_less0 (W : World) (p : Nat) : (method 189 61 (.pointer (some ⟨p, 0, none⟩)) "Less").run Try.prog W = (do let r ← loadVar 52 ⟨p, 0, none⟩; pure (46, r) : Sem (FuncId × Value)).run Try.prog W := by kernel_rfl
theorem m_less {W : World} {p : Nat} {v : Value} (hc : W.cell? ⟨p, 0, none⟩ = some v) : (method 189 61 (.pointer (some ⟨p, 0, none⟩)) "Less").run Try.prog W = .ok (46, v) W := by
  rw [m_less0]
  simp only [go_sem]
  simp [go_sem, hc]
theorem m_swap0 (W : World) (p : Nat) : (method 189 61 (.pointer (some ⟨p, 0, none⟩)) "Swap").run Try.prog W = (do let r ← loadVar 52 ⟨p, 0, none⟩; pure (47, r) : Sem (FuncId × Value)).run Try.prog W := by kernel_rfl
theorem m_swap {W : World} {p : Nat} {v : Value} (hc : W.cell? ⟨p, 0, none⟩ = some v) : (method 189 61 (.pointer (some ⟨p, 0, none⟩)) "Swap").run Try.prog W = .ok (47, v) W := by
  rw [m_swap0]
  simp only [go_sem]
  simp [go_sem, hc]
theorem m_len0 (W : World) (p : Nat) : (method 189 61 (.pointer (some ⟨p, 0, none⟩)) "Len").run Try.prog W = (do let r ← loadVar 52 ⟨p, 0, none⟩; pure (45, r) : Sem (FuncId × Value)).run Try.prog W := by kernel_rfl
theorem m_len {W : World} {p : Nat} {v : Value} (hc : W.cell? ⟨p, 0, none⟩ = some v) : (method 189 61 (.pointer (some ⟨p, 0, none⟩)) "Len").run Try.prog W = .ok (45, v) W := by
  rw [m_len0]
  simp only [go_sem]
  simp [go_sem, hc]
theorem m_push (W : World) (p : Nat) : (method 189 61 (.pointer (some ⟨p, 0, none⟩)) "Push").run Try.prog W = .ok (50, .pointer (some ⟨p, 0, none⟩)) W := by kernel_rfl
theorem m_pop (W : World) (p : Nat) : (method 189 61 (.pointer (some ⟨p, 0, none⟩)) "Pop").run Try.prog W = .ok (49, .pointer (some ⟨p, 0, none⟩)) W := by kernel_rfl
theorem Ft.iff {v : Value} {H : List Tm} {k : Nat} : Ft v H k ↔ v.ownBlock = some k ∨ k ∈ H.map Tm.b := by
  unfold Ft
  constructor
  · rintro (h | ⟨i, hi, rfl⟩)
    · exact .inl h
    · exact .inr (List.mem_map.2 ⟨_, ev_mem hi, rfl⟩)
  · rintro (h | h)
    · exact .inl h
    · obtain ⟨x, hx, rfl⟩ := List.mem_map.1 h
      obtain ⟨i, hi, he⟩ := mem_ev hx
      exact .inr ⟨i, hi, by rw [he]⟩
theorem Ft.perm {v : Value} {H H' : List Tm} {k : Nat} (h : H'.Perm H) (hk : Ft v H' k) : Ft v H k := by
  rw [Ft.iff] at hk ⊢
  rcases hk with hk | hk
  · exact .inl hk
  · exact .inr ((h.map _).mem_iff.1 hk)
/-- Those who wait, at the place where their slice lies. -/
structure Wq (w : World) (p : Nat) (v : Value) (H : List Tm) : Prop where
  c : w.cell? ⟨p, 0, none⟩ = some v
  f : w.frozen? ⟨p, 0, none⟩ = false
  ws : Ws w v H
  np : ¬ Ft v H p
theorem Wq.kept {w w' : World} {p : Nat} {v : Value} {H : List Tm} {S : Nat → Prop} (h : Wq w p v H) (hk : Kp S w w') (hS : ∀ k, k = p ∨ Ft v H k → ¬ S k) : Wq w' p v H :=
  ⟨hk.cell h.c (hS p (.inl rfl)), by rw [hk.frozen (lt_of_cell h.c) (hS p (.inl rfl))]; exact h.f, h.ws.kept hk (fun k h => hS k (.inr h)), h.np⟩
theorem Wq.swp {w w' : World} {p : Nat} {v : Value} {H : List Tm} (h : Wq w p v H) {i j : Nat} (hi : i < H.length) (hj : j < H.length) (hw : Ws w' v (swp H i j)) (hk : Kp (Ft v H) w w') : Wq w' p v (swp H i j) :=
  ⟨hk.cell h.c h.np, by rw [hk.frozen (lt_of_cell h.c) h.np]; exact h.f, hw, fun hh => h.np (hh.perm (swp_perm hi hj))⟩
def wqI (p : Nat) : Value := .iface 61 (.pointer (some ⟨p, 0, none⟩))
set_option maxRecDepth 100000 in
set_option maxHeartbeats 400000 in
theorem up_any (p : Nat) (v : Value) (H : List Tm) (n j : Nat) (w : World) (h : Wq w p v H) (hn : n ≤ H.length) (hj : j < n) (hu : UpOk H n j) :
    Calls Try.prog 27 #[wqI p, .int .i64 j] w fun e w' => e = .returned (.tuple #[]) ∧ ∃ H', H'.Perm H ∧ Hp H' n ∧ (∀ k, n ≤ k → ev H' k = ev H k) ∧ Wq w' p v H' ∧ Kp (Ft v H) w w' := by
  have hl := h.ws.len
  unfold wqI
  go_enter Try.func27, Try.ntmps27
  go_wp2
  go_loopw [1] (fun t wr => ∃ (m : Nat) (H' : List Tm), t = .int .i64 m ∧ m < n ∧ H'.Perm H ∧ UpOk H' n m ∧ (∀ k, n ≤ k → ev H' k = ev H k) ∧ Wq wr p v H' ∧ Kp (Ft v H) w wr) (fun t _ => (intOf t).toNat)
  case atStart => exact ⟨j, H, rfl, hj, List.Perm.refl _, hu, fun _ _ => rfl, h, Kp.refl _ _⟩
  case round =>
    obtain ⟨m, H', rfl, hm, hp, hU, hE, hW, hK⟩ := hrel
    have hl' : H'.length = H.length := hp.length_eq
    have hc := hW.c
    by_cases h0 : m = 0
    · subst h0
      go_wp2
      go_end0
      exact ⟨rfl, H', hp, up_end hU (.inl rfl), hE, hW, hK⟩
    · obtain ⟨i, Hi⟩ : ∃ i : Nat, Hid ((m - 1) / 2 = i) := ⟨_, rfl⟩
      have Hi' := Hi.out
      have him : i < m := by omega
      have hi : ((m : Int) - 1) / 2 = (i : Int) := by omega
      have hne : ((i : Int) == (m : Int)) = false := by simp; omega
      have ml := m_less hc
      have ms : ∀ d, _ := fun d => m_swap (W := wr.drewN d) (p := p) (v := v) hc
      have hlm := hide (less_any v H' m i wr hW.ws (by omega) (by omega))
      by_cases ha : Ah (ev H' m) (ev H' i)
      · rw [decide_eq_true ha] at hlm
        have hU' := up_step hU (by omega) hm (by omega) Hi' ha
        have hlt : i < H'.length := by omega
        have hlt' : m < H'.length := by omega
        clear Hi'
        go_wp2_with (first
          | (go_at_call 46; refine hlm.out.mono ?_; rintro e w1 ⟨rfl, d, rfl⟩)
          | (go_at_call 47; refine (wswap_any v H' i m _ (hW.ws.keptN (Kp.drewN _ _ _)) hlt hlt').mono ?_; rintro e w2 ⟨rfl, hw2, hk2⟩))
        have hk3 : Kp (Ft v H') wr w2 := (Kp.drewN _ _ _).then hk2
        go_roundw
        case rel => exact ⟨i, swp H' i m, rfl, by omega, (swp_perm hlt hlt').trans hp, hU', fun k hk => by rw [ev_swp hlt hlt', if_neg (by omega), if_neg (by omega)]; exact hE k hk, hW.swp hlt hlt' hw2 hk3, hK.then (hk3.mono (fun k _ h => h.perm hp))⟩
        case measure => simp [intOf]; omega
      · rw [decide_eq_false ha] at hlm
        have hP := up_end hU (.inr (by rw [Hi']; exact ha))
        clear Hi'
        go_wp2_with (go_at_call 46; refine hlm.out.mono ?_; rintro e w1 ⟨rfl, d, rfl⟩)
        go_end0
        exact ⟨rfl, H', hp, hP, hE, hW.kept (Kp.drewN none' _ _) (fun _ _ h => h), hK.then (Kp.drewN _ _ _)⟩

/-- What down leaves: whether it has moved who was at i. -/
def DownS (H : List Tm) (n i : Nat) (b : Bool) (H' : List Tm) : Prop := (b = true ∧ Hp H' n) ∨ (b = false ∧ H' = H ∧ UpOk H n i)
theorem down_fin {H H' : List Tm} {n i m : Nat} (h1 : m ≠ i → ¬ Ah (ev H' m) (ev H' ((m - 1) / 2)) ∧ i < m) (h2 : m = i → H' = H) (hU : UpOk H' n m) : DownS H n i (decide (i < m)) H' := by
  by_cases e : m = i
  · right
    subst e
    obtain rfl := h2 rfl
    exact ⟨by simp, rfl, hU⟩
  · left
    exact ⟨by simp [(h1 e).2], up_end hU (.inr (h1 e).1)⟩
/-- The state of down's loop. -/
structure Dn (p : Nat) (v : Value) (H : List Tm) (n i0 : Nat) (w wr : World) (m : Nat) (H' : List Tm) : Prop where
  le : i0 ≤ m
  lt : m ≤ n
  perm : H'.Perm H
  fix : FixOk H' n m
  up : m ≠ i0 → ¬ Ah (ev H' m) (ev H' ((m - 1) / 2)) ∧ i0 < m
  same : m = i0 → H' = H
  out : ∀ k, n ≤ k → ev H' k = ev H k
  wq : Wq wr p v H'
  kp : Kp (Ft v H) w wr
theorem Dn.drew {p : Nat} {v : Value} {H : List Tm} {n i0 : Nat} {w wr : World} {m : Nat} {H' : List Tm} (h : Dn p v H n i0 w wr m H') (d : Nat) : Dn p v H n i0 w (wr.drewN d) m H' :=
  ⟨h.le, h.lt, h.perm, h.fix, h.up, h.same, h.out, h.wq.kept (Kp.drewN none' _ _) (fun _ _ h => h), h.kp.then (Kp.drewN _ _ _)⟩
theorem Dn.step {p : Nat} {v : Value} {H : List Tm} {n i0 : Nat} {w wr w2 : World} {m j : Nat} {H' : List Tm} (h : Dn p v H n i0 w wr m H') (hn : n ≤ H'.length) (hj : j < n) (h0 : 0 < j) (hi : (j - 1) / 2 = m) (ha : Ah (ev H' j) (ev H' m)) (hc : ∀ c, 0 < c → c < n → (c - 1) / 2 = m → ¬ Ah (ev H' c) (ev H' j))
    (hw : Ws w2 v (swp H' m j)) (hk : Kp (Ft v H') wr w2) : Dn p v H n i0 w w2 j (swp H' m j) := by
  have hm : m < H'.length := by omega
  have hj' : j < H'.length := by omega
  have D := down_step h.fix hn hj h0 hi ha hc
  have hle := h.le
  exact ⟨by omega, by omega, (swp_perm hm hj').trans h.perm, D.1, fun _ => ⟨D.2, by omega⟩, fun e => by omega, fun k hk => by rw [ev_swp hm hj', if_neg (by omega), if_neg (by omega)]; exact h.out k hk, h.wq.swp hm hj' hw hk, h.kp.then (hk.mono (fun k _ hh => hh.perm h.perm))⟩
set_option maxRecDepth 100000 in
set_option maxHeartbeats 2000000 in
theorem down_any (p : Nat) (v : Value) (H : List Tm) (n i0 : Nat) (w : World) (h : Wq w p v H) (hn : n ≤ H.length) (hi0 : i0 ≤ n) (hf : FixOk H n i0) :
    Calls Try.prog 26 #[wqI p, .int .i64 i0, .int .i64 n] w fun e w' => ∃ b H', e = .returned (.bool b) ∧ H'.Perm H ∧ (∀ k, n ≤ k → ev H' k = ev H k) ∧ Wq w' p v H' ∧ Kp (Ft v H) w w' ∧ DownS H n i0 b H' := by
  have hl := h.ws.len
  unfold wqI
  go_enter Try.func26, Try.ntmps26
  go_wp2
  go_loopw [7] (fun t wr => ∃ (m : Nat) (H' : List Tm), t = .int .i64 m ∧ Dn p v H n i0 w wr m H') (fun t _ => n - (intOf t).toNat)
  case atStart => exact ⟨i0, H, rfl, Nat.le_refl _, hi0, List.Perm.refl _, hf, fun hh => absurd rfl hh, fun _ => rfl, fun _ _ => rfl, h, Kp.refl _ _⟩
  case round =>
    obtain ⟨m, H', rfl, hD⟩ := hrel
    have hl' : H'.length = H.length := hD.perm.length_eq
    have hc := hD.wq.c
    have hmn := hD.lt
    have hle := hD.le
    by_cases h1 : n ≤ 2 * m + 1
    · have hU := down_stop hD.fix (fun c c0 hcn hcm => by omega)
      have h1' : (n : Int) ≤ 2 * (m : Int) + 1 := by omega
      have hR := down_fin hD.up hD.same hU
      go_wp2
      go_ret
      exact ⟨_, H', rfl, hD.perm, hD.out, hD.wq, hD.kp, hR⟩
    · obtain ⟨z1, Z1⟩ : ∃ z : Int, Hid (2 * (m : Int) + 1 = z) := ⟨_, rfl⟩
      obtain ⟨z2, Z2⟩ : ∃ z : Int, Hid (z1 + 1 = z) := ⟨_, rfl⟩
      have hz1 := Z1.out
      have hz2 := Z2.out
      have h1' : ¬ (n : Int) ≤ z1 := by omega
      have h1a : ¬ z1 < 0 := by omega
      have hlm : m < H'.length := by omega
      have ml : ∀ d, _ := fun d => m_less (W := wr.drewN d) (p := p) (v := v) hc
      have ml0 := m_less hc
      have ms : ∀ d, _ := fun d => m_swap (W := wr.drewN d) (p := p) (v := v) hc
      by_cases h2 : 2 * m + 2 < n
      · have h2' : z2 < (n : Int) := by omega
        have e2 : (((2 * m + 2 : Nat)) : Int) = z2 := by omega
        have e1 : (((2 * m + 1 : Nat)) : Int) = z1 := by omega
        have C2 := less_any v H' (2 * m + 2) (2 * m + 1) wr hD.wq.ws (by omega) (by omega)
        rw [e1, e2] at C2
        by_cases h3 : Ah (ev H' (2 * m + 2)) (ev H' (2 * m + 1))
        · rw [decide_eq_true h3] at C2
          have H2 := hide C2
          clear C2
          have hch : ∀ X : Tm, ¬ Ah (ev H' (2 * m + 2)) X → ∀ c, 0 < c → c < n → (c - 1) / 2 = m → ¬ Ah (ev H' c) X := fun X hX c c0 hcn hcm => by
            have : c = 2 * m + 1 ∨ c = 2 * m + 2 := by omega
            rcases this with rfl | rfl
            · exact nAh_trans h3.asym hX
            · exact hX
          have eJ : (((2 * m + 2 : Nat)) : Int) = z2 := by omega
          have hlJ : 2 * m + 2 < H'.length := by omega
          have CL := fun W (hk : Kp none' wr W) => less_any v H' (2 * m + 2) m W (hD.wq.ws.keptN hk) hlJ hlm
          have CS := fun d => wswap_any v H' m (2 * m + 2) (wr.drewN d) (hD.wq.ws.keptN (Kp.drewN _ _ _)) hlm hlJ
          rw [eJ] at CL CS
          by_cases ha : Ah (ev H' (2 * m + 2)) (ev H' m)
          · rw [decide_eq_true ha] at CL
            have HL := hide CL
            have HS := hide CS
            clear CL CS
            go_wp2_with (first
              | (go_at_call 46; refine H2.out.mono ?_; clear H2; rintro e w1 ⟨rfl, d, rfl⟩)
              | (go_at_call 46; refine (HL.out _ (Kp.drewN none' wr _)).mono ?_; rintro e w2 ⟨rfl, d2, rfl⟩)
              | (go_at_call 47; refine (HS.out _).mono ?_; rintro e w3 ⟨rfl, hw3, hk3⟩))
            have hk4 := (Kp.drewN (Ft v H') wr _).then hk3
            go_roundw
            case rel => exact ⟨2 * m + 2, swp H' m (2 * m + 2), by rw [eJ], hD.step (by omega) (by omega) (by omega) (by omega) ha (hch _ (Ah.irr _)) hw3 hk4⟩
            case measure => simp [intOf]; omega
          · rw [decide_eq_false ha] at CL
            have HL := hide CL
            clear CL CS
            have hU := down_stop hD.fix (hch _ ha)
            have hR := down_fin hD.up hD.same hU
            go_wp2_with (first
              | (go_at_call 46; refine H2.out.mono ?_; clear H2; rintro e w1 ⟨rfl, d, rfl⟩)
              | (go_at_call 46; refine (HL.out _ (Kp.drewN none' wr _)).mono ?_; rintro e w2 ⟨rfl, d2, rfl⟩))
            go_ret
            exact ⟨_, H', rfl, hD.perm, hD.out, hD.wq.kept (Kp.drewN none' _ _) (fun _ _ h => h), hD.kp.then (Kp.drewN _ _ _), hR⟩
        · rw [decide_eq_false h3] at C2
          have H2 := hide C2
          clear C2
          have hch : ∀ X : Tm, ¬ Ah (ev H' (2 * m + 1)) X → ∀ c, 0 < c → c < n → (c - 1) / 2 = m → ¬ Ah (ev H' c) X := fun X hX c c0 hcn hcm => by
            have : c = 2 * m + 1 ∨ c = 2 * m + 2 := by omega
            rcases this with rfl | rfl
            · exact hX
            · exact nAh_trans h3 hX
          have eJ : (((2 * m + 1 : Nat)) : Int) = z1 := by omega
          have hlJ : 2 * m + 1 < H'.length := by omega
          have CL := fun W (hk : Kp none' wr W) => less_any v H' (2 * m + 1) m W (hD.wq.ws.keptN hk) hlJ hlm
          have CS := fun d => wswap_any v H' m (2 * m + 1) (wr.drewN d) (hD.wq.ws.keptN (Kp.drewN _ _ _)) hlm hlJ
          rw [eJ] at CL CS
          by_cases ha : Ah (ev H' (2 * m + 1)) (ev H' m)
          · rw [decide_eq_true ha] at CL
            have HL := hide CL
            have HS := hide CS
            clear CL CS
            go_wp2_with (first
              | (go_at_call 46; refine H2.out.mono ?_; clear H2; rintro e w1 ⟨rfl, d, rfl⟩)
              | (go_at_call 46; refine (HL.out _ (Kp.drewN none' wr _)).mono ?_; rintro e w2 ⟨rfl, d2, rfl⟩)
              | (go_at_call 47; refine (HS.out _).mono ?_; rintro e w3 ⟨rfl, hw3, hk3⟩))
            have hk4 := (Kp.drewN (Ft v H') wr _).then hk3
            go_roundw
            case rel => exact ⟨2 * m + 1, swp H' m (2 * m + 1), by rw [eJ], hD.step (by omega) (by omega) (by omega) (by omega) ha (hch _ (Ah.irr _)) hw3 hk4⟩
            case measure => simp [intOf]; omega
          · rw [decide_eq_false ha] at CL
            have HL := hide CL
            clear CL CS
            have hU := down_stop hD.fix (hch _ ha)
            have hR := down_fin hD.up hD.same hU
            go_wp2_with (first
              | (go_at_call 46; refine H2.out.mono ?_; clear H2; rintro e w1 ⟨rfl, d, rfl⟩)
              | (go_at_call 46; refine (HL.out _ (Kp.drewN none' wr _)).mono ?_; rintro e w2 ⟨rfl, d2, rfl⟩))
            go_ret
            exact ⟨_, H', rfl, hD.perm, hD.out, hD.wq.kept (Kp.drewN none' _ _) (fun _ _ h => h), hD.kp.then (Kp.drewN _ _ _), hR⟩
      · have h2' : ¬ z2 < (n : Int) := by omega
        have hch : ∀ X : Tm, ¬ Ah (ev H' (2 * m + 1)) X → ∀ c, 0 < c → c < n → (c - 1) / 2 = m → ¬ Ah (ev H' c) X := fun X hX c c0 hcn hcm => by
          obtain rfl : c = 2 * m + 1 := by omega
          exact hX
        have eJ : (((2 * m + 1 : Nat)) : Int) = z1 := by omega
        have hlJ : 2 * m + 1 < H'.length := by omega
        have CL := fun W (hk : Kp none' wr W) => less_any v H' (2 * m + 1) m W (hD.wq.ws.keptN hk) hlJ hlm
        have CS := fun d => wswap_any v H' m (2 * m + 1) (wr.drewN d) (hD.wq.ws.keptN (Kp.drewN _ _ _)) hlm hlJ
        rw [eJ] at CL CS
        by_cases ha : Ah (ev H' (2 * m + 1)) (ev H' m)
        · rw [decide_eq_true ha] at CL
          have HL := hide CL
          have HS := hide CS
          clear CL CS
          go_wp2_with (first
            | (go_at_call 46; refine (HL.out _ (Kp.refl none' wr)).mono ?_; rintro e w2 ⟨rfl, d2, rfl⟩)
            | (go_at_call 47; refine (HS.out _).mono ?_; rintro e w3 ⟨rfl, hw3, hk3⟩))
          have hk4 := (Kp.drewN (Ft v H') wr _).then hk3
          go_roundw
          case rel => exact ⟨2 * m + 1, swp H' m (2 * m + 1), by rw [eJ], hD.step (by omega) (by omega) (by omega) (by omega) ha (hch _ (Ah.irr _)) hw3 hk4⟩
          case measure => simp [intOf]; omega
        · rw [decide_eq_false ha] at CL
          have HL := hide CL
          clear CL CS
          have hU := down_stop hD.fix (hch _ ha)
          have hR := down_fin hD.up hD.same hU
          go_wp2_with (first
            | (go_at_call 46; refine (HL.out _ (Kp.refl none' wr)).mono ?_; rintro e w2 ⟨rfl, d2, rfl⟩))
          go_ret
          exact ⟨_, H', rfl, hD.perm, hD.out, hD.wq.kept (Kp.drewN none' _ _) (fun _ _ h => h), hD.kp.then (Kp.drewN _ _ _), hR⟩

end Go.Proofs.Ytpoahegccjgnjaa
