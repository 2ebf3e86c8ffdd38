/- Who waits last, taken from there; container/heap's Push, Pop and Remove. Conditions: those that each theorem states. -/
import Derived.Test.YtpoahegccjgnjaaYPush
namespace Go.Proofs.Ytpoahegccjgnjaa
open Go Go.RowKit
set_option linter.unusedVariables false
theorem Ow.popped {w : World} {g n c : Nat} {H : List Tm} (h : Ow ptV 56 w 0 (.slice (some ⟨g, 0, none⟩) n c) H) (m : Nat) (hm : m + 1 = H.length) : Ow ptV 56 (w.setCell ⟨g, m, none⟩ (.pointer none)) 0 (.slice (some ⟨g, 0, none⟩) m c) (H.take m) ∧ w.grownBy (w.setCell ⟨g, m, none⟩ (.pointer none)) (some g) := by
  have hn : n = H.length := by
    rcases h.2 with ⟨h1, _⟩ | ⟨g', cap', cur, h1, _⟩
    · cases h1
    · cases h1; rfl
  subst hn
  have h2 := World.ownsRow.stored (g := g) (cap := c) h m (.pointer none)
  refine ⟨?_, h2.2⟩
  have hl : (H.take m).length = m := by rw [List.length_take]; omega
  have h3 := h2.1.2
  unfold Ow
  rw [hl]
  refine ⟨by rw [List.length_map, hl]; omega, .inr ?_⟩
  rcases h3 with ⟨h1, _⟩ | ⟨g', cap', cur, h1, hb, hg, hnc, hcm, hcs, ht⟩
  · cases h1
  · cases h1
    refine ⟨g, c, cur, rfl, hb, hg, by omega, hcm, hcs, ?_⟩
    have e1 := congrArg (List.take m) ht
    rw [List.take_take, List.take_set, List.set_eq_of_length_le (by rw [List.length_take]; omega), ← List.map_take, Nat.min_eq_left (by omega)] at e1
    rw [Nat.mul_one]
    exact e1
theorem Ow.cap {α : Type} {f : α → Value} {e : TypeId} {w : World} {base g n cap : Nat} {l : List α} (h : Ow f e w base (.slice (some ⟨g, 0, none⟩) n cap) l) : l.length ≤ cap := by
  rcases h.2 with ⟨q, _⟩ | ⟨g2, cap, cur, q, _, _, hnc, _⟩
  · cases q
  · cases q; exact hnc
set_option maxRecDepth 100000 in
set_option maxHeartbeats 400000 in
theorem wpop_any (p : Nat) (v : Value) (H : List Tm) (n : Nat) (w : World) (h : Wq w p v H) (hn : n + 1 = H.length) :
    Calls Try.prog 49 #[.pointer (some ⟨p, 0, none⟩)] w fun e w' => e = .returned (.iface 56 (.pointer (some ⟨(ev H n).b, 0, none⟩))) ∧ ∃ v', Wq w' p v' (H.take n) ∧ Kp (fun k => k = p ∨ v.ownBlock = some k) w w' ∧ v'.ownBlock = v.ownBlock ∧ w'.heap[(ev H n).b]? = some (tmC (ev H n) n) ∧ Kc p w w' := by
  have hc := h.c
  have hf := h.f
  have hl := h.ws.len
  obtain ⟨a, c, e0, ho⟩ := h.ws.ow.open
  obtain ⟨g, e1, -, -⟩ := ho n (by omega)
  subst e1
  subst e0
  clear ho
  have cn := h.ws.ow.at n (by omega)
  have fn := h.ws.ow.frz n
  have hP := h.ws.ow.popped n hn
  have hpg : p ≠ g := fun e => h.np (.inl (by rw [e]; rfl))
  have k1 : Kp (only g) w _ := Kp.ofGrown hP.2 (S := only g) (fun _ h _ => by cases h; rfl)
  have c1 := k1.cell hc hpg
  have f1 : (w.setCell ⟨g, n, none⟩ (.pointer none)).frozen? ⟨p, 0, none⟩ = false := by rw [World.frozen?_setCell]; exact hf
  have hn' : (n : Int) < (H.length : Int) := by omega
  have hcap := h.ws.ow.cap
  have hnc : (n : Int) ≤ (c : Int) := by omega
  have hn2 : (H.length : Int) - 1 = (n : Int) := by omega
  have Hh := hide h
  have HP := hide hP
  clear h hP
  go_enter Try.func49, Try.ntmps49
  go_wp2
  go_ret
  have k2 : Kp (only p) (w.setCell ⟨g, n, none⟩ (.pointer none)) ((w.setCell ⟨g, n, none⟩ (.pointer none)).setCell ⟨p, 0, none⟩ (.slice (some ⟨g, 0, none⟩) n c)) := Kp.setCell _ _ _ _ rfl
  have hlen : (H.take n).length = n := by rw [List.length_take]; omega
  have hev : ∀ i, i < n → ev (H.take n) i = ev H i := fun i hi => by
    rw [ev_lt (by rw [hlen]; exact hi), ev_lt (by omega), List.getElem_take]
  have hg : ∀ i, i < H.length → (ev H i).b ≠ g := fun i hi => Hh.out.ws.sep g rfl i hi
  refine ⟨rfl, _, ⟨World.cell?_setCell_same _ _ _ c1, by rw [World.frozen?_setCell]; exact f1, ⟨HP.out.1.kept k2 (fun k hk e => ?_), fun i hi => ?_, ?_, fun g' hg' i hi => ?_, by rw [hlen]; omega⟩, ?_⟩, (k1.mono (fun k _ hk => .inr (by cases hk; rfl))).then (k2.mono (fun k _ hk => .inl hk)), rfl, tb_other (tb_other (Hh.out.ws.tb n (by omega)) (hg n (by omega))) (fun e => Hh.out.np (.inr ⟨n, by omega, e⟩)), (Kc.ofKp k1 (fun e => hpg e) (lt_of_cell Hh.out.c)).trans (Kc.set _ _ _)⟩
  · cases hk
    exact hpg (e : g = p).symm
  · rw [hlen] at hi
    rw [hev i hi]
    exact tb_other (tb_other (Hh.out.ws.tb i (by omega)) (hg i (by omega))) (fun e => Hh.out.np (.inr ⟨i, by omega, e⟩))
  · rw [List.map_take]
    exact Hh.out.ws.nd.sublist (List.take_sublist _ _)
  · rw [hlen] at hi
    rw [hev i hi]
    cases hg'
    exact hg i (by omega)
  · rintro (hh | ⟨i, hi, e⟩)
    · cases hh
      exact hpg rfl
    · rw [hlen] at hi
      rw [hev i hi] at e
      exact Hh.out.np (.inr ⟨i, by omega, e⟩)
set_option maxRecDepth 100000 in
set_option maxHeartbeats 400000 in
theorem hpush_any (p : Nat) (v : Value) (H : List Tm) (y : Tm) (k : Nat) (w : World) (h : Wq w p v H) (hP : Hp H H.length) (hy : w.heap[y.b]? = some (tmC y k)) (hn : ¬ Ft v H y.b) (hp : y.b ≠ p) (hl : H.length + 1 ≤ 1000000) :
    Calls Try.prog 23 #[wqI p, .iface 56 (.pointer (some ⟨y.b, 0, none⟩))] w fun e w' => e = .returned (.tuple #[]) ∧ ∃ v' H', H'.Perm (y :: H) ∧ Hp H' H'.length ∧ Wq w' p v' H' ∧ Kp (fun k => k = p ∨ k = y.b ∨ Ft v H k) w w' ∧ (v'.ownBlock = v.ownBlock ∨ ∃ g, v'.ownBlock = some g ∧ w.heap.size ≤ g ∧ g < w'.heap.size) ∧ Kc p w w' := by
  have hm := m_push w p
  have ml := fun (W : World) (u : Value) (hc : W.cell? ⟨p, 0, none⟩ = some u) => m_len (W := W) (p := p) hc
  have HP := hide (wpush_any p v H y k w h hy hn hp hl)
  have hlen : (H ++ [y]).length = H.length + 1 := by simp
  have hU : UpOk (H ++ [y]) (H ++ [y]).length H.length := by
    have he : ∀ k, k < H.length → ev (H ++ [y]) k = ev H k := fun k hk => by simp [ev, hk, List.getElem?_append_left]
    refine ⟨fun k k0 hk kj => ?_, fun c c0 hc cj => ?_⟩
    · rw [hlen] at hk
      rw [he k (by omega), he _ (by omega)]
      exact hP k k0 (by omega)
    · rw [hlen] at hc
      omega
  have HU := hide (fun w1 v1 (h1 : Wq w1 p v1 (H ++ [y])) => up_any p v1 (H ++ [y]) (H ++ [y]).length H.length w1 h1 (Nat.le_refl _) (by rw [hlen]; omega) hU)
  have HL := hide (fun w1 v1 (h1 : Wq w1 p v1 (H ++ [y])) => wlen_any v1 (H ++ [y]) w1 h1.ws)
  have hn1 : ((H.length + 1 : Nat) : Int) - 1 = (H.length : Int) := by omega
  rw [hlen] at HL
  have ML := hide ml
  clear ml
  unfold wqI at *
  go_enter Try.func23, Try.ntmps23
  go_upto_region 1 with (go_at_call 50; refine HP.out.mono ?_; clear HP; rintro e w1 ⟨rfl, v1, h1, hk1, hb1, hc1⟩)
  have mm := ML.out w1 v1 h1.c
  go_wp2_with (first
    | (go_at_call 45; refine (HL.out w1 v1 h1).mono ?_; clear HL; rintro e w0 ⟨rfl, rfl⟩)
    | (go_at_call 27; refine (HU.out _ v1 h1).mono ?_; clear HU; rintro e w2 ⟨rfl, H2, hp2, hP2, ho2, hq2, hk2⟩))
  go_end0
  refine ⟨rfl, v1, H2, hp2.trans (List.perm_append_comm (l₁ := H) (l₂ := [y])), by rw [hp2.length_eq]; exact hP2, hq2, hk1.trans hk2 (fun k _ h => h) (fun k hk hh => ?_), ?_, hc1.trans (Kc.ofKp hk2 h1.np (lt_of_cell h1.c))⟩
  · rcases Ft.iff.1 hh with hh | hh
    · rcases hb1 with e | ⟨g, e, hg1, _⟩
      · exact .inr (.inr (.inl (e ▸ hh)))
      · rw [e] at hh
        cases hh
        omega
    · rw [List.map_append] at hh
      rcases List.mem_append.1 hh with hh | hh
      · exact .inr (.inr (Ft.iff.2 (.inr hh)))
      · exact .inr (.inl (by simpa using hh))
  · rcases hb1 with e | ⟨g, e, hg1, hg2⟩
    · exact .inl e
    · exact .inr ⟨g, e, hg1, Nat.lt_of_lt_of_le hg2 hk2.size⟩
theorem hp_fix2 {H : List Tm} {n i : Nat} (h : Hp H n) {H' : List Tm} (he : ∀ k, k < n → k ≠ i → ev H' k = ev H k) : FixOk H' n i :=
  ⟨fun k k0 hk ki pi => by rw [he k hk ki, he _ (by omega) pi]; exact h k k0 hk, fun c c0 hc ci i0 => by
    rw [he c hc (by omega), he _ (by omega) (by omega)]
    have q1 := h c c0 hc
    have q2 := h i i0 (by omega)
    rw [ci] at q1
    exact nAh_trans q1 q2⟩
theorem rem_perm {H H2 : List Tm} {i n : Nat} (hn : n + 1 = H.length) (hi : i < H.length) (hp : H2.Perm (swp H i n)) (ho : ∀ k, n ≤ k → ev H2 k = ev (swp H i n) k) : H.Perm (ev H i :: H2.take n) ∧ ev H2 n = ev H i := by
  have hs := swp_perm hi (show n < H.length by omega)
  have hl : H2.length = n + 1 := by rw [hp.length_eq, swp_len]; omega
  have e1 : ev H2 n = ev H i := by
    rw [ho n (Nat.le_refl _), ev_swp hi (by omega), if_pos rfl]
  refine ⟨?_, e1⟩
  have e2 : H2 = H2.take n ++ [ev H i] := by
    rw [← e1, ev_lt (by omega)]
    have h3 : H2.take (n + 1) = H2 := List.take_of_length_le (by omega)
    rw [← List.take_succ_eq_append_getElem (by omega), h3]
  have h4 : H.Perm (H2.take n ++ [ev H i]) := by rw [← e2]; exact (hp.trans hs).symm
  exact h4.trans (List.perm_append_comm (l₁ := H2.take n) (l₂ := [ev H i]))
theorem hp_take {H : List Tm} {n : Nat} (hn : n ≤ H.length) (h : Hp H n) : Hp (H.take n) (H.take n).length := by
  have hlen : (H.take n).length = n := by rw [List.length_take]; omega
  rw [hlen]
  exact h.congr (fun k hk => by rw [ev_lt (by rw [hlen]; exact hk), ev_lt (by omega), List.getElem_take])
set_option maxRecDepth 100000 in
set_option maxHeartbeats 800000 in
theorem hpop_any (p : Nat) (v : Value) (H : List Tm) (n : Nat) (w : World) (h : Wq w p v H) (hP : Hp H H.length) (hn : n + 1 = H.length) :
    Calls Try.prog 28 #[wqI p] w fun e w' => e = .returned (.iface 56 (.pointer (some ⟨(ev H 0).b, 0, none⟩))) ∧ ∃ v' H', H.Perm (ev H 0 :: H') ∧ Hp H' H'.length ∧ Wq w' p v' H' ∧ Kp (fun k => k = p ∨ Ft v H k) w w' ∧ v'.ownBlock = v.ownBlock ∧ w'.heap[(ev H 0).b]? = some (tmC (ev H 0) n) ∧ Kc p w w' := by
  have hl := h.ws.len
  have ml := m_len (p := p) h.c
  have ms := m_swap (p := p) h.c
  have mp := fun W => m_pop W p
  have h0 : 0 < H.length := by omega
  have hnl : n < H.length := by omega
  have hn2 : (H.length : Int) - 1 = (n : Int) := by omega
  have HL := hide (wlen_any v H w h.ws)
  have HS := hide (wswap_any v H 0 n w h.ws h0 hnl)
  have hsl := swp_len H 0 n
  have hF : FixOk (swp H 0 n) n 0 := hp_fix2 (hP.less (by omega)) (fun k hk k0 => by rw [ev_swp h0 hnl, if_neg (by omega), if_neg k0])
  have HD := hide (fun w1 (h1 : Wq w1 p v (swp H 0 n)) => down_any p v (swp H 0 n) n 0 w1 h1 (by rw [hsl]; omega) (Nat.zero_le _) hF)
  have HO := hide (fun w2 (H2 : List Tm) (h2 : Wq w2 p v H2) (hn2 : n + 1 = H2.length) => wpop_any p v H2 n w2 h2 hn2)
  unfold wqI at *
  go_enter Try.func28, Try.ntmps28
  go_upto_region 4 with (first
    | (go_at_call 45; refine HL.out.mono ?_; clear HL; rintro e w0 ⟨rfl, e0⟩; subst e0)
    | (go_at_call 47; refine HS.out.mono ?_; clear HS; rintro e w1 ⟨rfl, hw1, hk1⟩)
    | (go_at_call 26; refine (HD.out _ (h.swp h0 hnl hw1 hk1)).mono ?_; clear HD; rintro e w2 ⟨b, H2, rfl, hp, ho, hq, hk, hS⟩))
  have hl2 : H2.length = H.length := by rw [hp.length_eq, hsl]
  have hP2 : Hp H2 n := by
    rcases hS with ⟨_, g⟩ | ⟨_, rfl, g⟩
    · exact g
    · exact up_end g (.inl rfl)
  have hR := rem_perm hn h0 hp ho
  have hn3 : n + 1 = H2.length := by omega
  clear ho
  go_wp2_with (go_at_call 49; refine (HO.out w2 H2 hq hn3).mono ?_; rintro e w3 ⟨rfl, v', hq3, hk3, hv3, ht3, hc3⟩)
  go_ret
  have hpl : p < w0.heap.size := lt_of_cell h.c
  have hc4 := ((Kc.ofKp hk1 h.np hpl).trans (Kc.ofKp hk (h.swp h0 hnl hw1 hk1).np (Nat.lt_of_lt_of_le hpl hk1.size))).trans hc3
  rw [hR.2] at ht3
  refine ⟨rfl, v', H2.take n, hR.1, hp_take (by omega) hP2, hq3, ((hk1.mono (fun k _ hk => .inr hk)).then (hk.mono (fun k _ hk => .inr (hk.perm (swp_perm h0 hnl))))).then (hk3.mono (fun k _ hk => ?_)), hv3, ht3, hc4⟩
  rcases hk with hk | hk
  · exact .inl hk
  · exact .inr (.inl hk)
set_option maxRecDepth 100000 in
set_option maxHeartbeats 800000 in
theorem hrem_any (p : Nat) (v : Value) (H : List Tm) (n i : Nat) (w : World) (h : Wq w p v H) (hP : Hp H H.length) (hn : n + 1 = H.length) (hi : i < H.length) :
    Calls Try.prog 24 #[wqI p, .int .i64 i] w fun e w' => e = .returned (.iface 56 (.pointer (some ⟨(ev H i).b, 0, none⟩))) ∧ ∃ v' H', H.Perm (ev H i :: H') ∧ Hp H' H'.length ∧ Wq w' p v' H' ∧ Kp (fun k => k = p ∨ Ft v H k) w w' ∧ v'.ownBlock = v.ownBlock ∧ w'.heap[(ev H i).b]? = some (tmC (ev H i) n) ∧ Kc p w w' := by
  have hl := h.ws.len
  have ml := m_len (p := p) h.c
  have ms := m_swap (p := p) h.c
  have mp := fun W => m_pop W p
  have hnl : n < H.length := by omega
  have hn2 : (H.length : Int) - 1 = (n : Int) := by omega
  have HL := hide (wlen_any v H w h.ws)
  have HO := hide (fun w2 (H2 : List Tm) (h2 : Wq w2 p v H2) (hn2 : n + 1 = H2.length) => wpop_any p v H2 n w2 h2 hn2)
  by_cases hni : n = i
  · subst hni
    have hee : ((n : Int) != (n : Int)) = false := by simp
    have HO2 := hide (HO.out w H h hn)
    clear HO
    unfold wqI at *
    go_enter Try.func24, Try.ntmps24
    go_wp2_with (first
      | (go_at_call 45; refine HL.out.mono ?_; clear HL; rintro e w0 ⟨rfl, e0⟩; subst e0)
      | (go_at_call 49; refine HO2.out.mono ?_; rintro e w3 ⟨rfl, v', hq3, hk3, hv3, ht3, hc3⟩))
    go_ret
    have e2 : H = H.take n ++ [ev H n] := by
      rw [ev_lt hnl, ← List.take_succ_eq_append_getElem hnl, List.take_of_length_le (by omega)]
    refine ⟨rfl, v', H.take n, ?_, hp_take (by omega) (hP.less (by omega)), hq3, hk3.mono (fun k _ hk => ?_), hv3, ht3, hc3⟩
    · have h4 : H.Perm (H.take n ++ [ev H n]) := by rw [← e2]
      exact h4.trans (List.perm_append_comm (l₁ := H.take n) (l₂ := [ev H n]))
    · rcases hk with hk | hk
      · exact .inl hk
      · exact .inr (.inl hk)
  · have hin : i < n := by omega
    have hee : ((n : Int) != (i : Int)) = true := by simp; omega
    have HS := hide (wswap_any v H i n w h.ws hi hnl)
    have hsl := swp_len H i n
    have hF : FixOk (swp H i n) n i := hp_fix2 (hP.less (by omega)) (fun k hk k0 => by rw [ev_swp hi hnl, if_neg (by omega), if_neg k0])
    have HD := hide (fun w1 (h1 : Wq w1 p v (swp H i n)) => down_any p v (swp H i n) n i w1 h1 (by rw [hsl]; omega) (by omega) hF)
    have HU := hide (fun w1 (h1 : Wq w1 p v (swp H i n)) hU => up_any p v (swp H i n) n i w1 h1 (by rw [hsl]; omega) hin hU)
    have fin : ∀ w1 w2 w3 H2 v', Ws w1 v (swp H i n) → Kp (Ft v H) w w1 → H2.Perm (swp H i n) → (∀ k, n ≤ k → ev H2 k = ev (swp H i n) k) → Hp H2 n → Kp (Ft v (swp H i n)) w1 w2 → Wq w3 p v' (H2.take n) → Kp (fun k => k = p ∨ v.ownBlock = some k) w2 w3 → v'.ownBlock = v.ownBlock → w3.heap[(ev H2 n).b]? = some (tmC (ev H2 n) n) → Kc p w2 w3 →
        ev H2 n = ev H i ∧ ∃ v' H', H.Perm (ev H i :: H') ∧ Hp H' H'.length ∧ Wq w3 p v' H' ∧ Kp (fun k => k = p ∨ Ft v H k) w w3 ∧ v'.ownBlock = v.ownBlock ∧ w3.heap[(ev H i).b]? = some (tmC (ev H i) n) ∧ Kc p w w3 := fun w1 w2 w3 H2 v' hw1 hk1 hp ho hP2 hk hq3 hk3 hv3 ht3 hc3 => by
      have hpl : p < w.heap.size := lt_of_cell h.c
      have hc4 := ((Kc.ofKp hk1 h.np hpl).trans (Kc.ofKp hk (h.swp hi hnl hw1 hk1).np (Nat.lt_of_lt_of_le hpl hk1.size))).trans hc3
      have hR := rem_perm hn hi hp ho
      have hl2 : H2.length = H.length := by rw [hp.length_eq, hsl]
      rw [hR.2] at ht3
      refine ⟨hR.2, v', H2.take n, hR.1, hp_take (by omega) hP2, hq3, ((hk1.mono (fun k _ hk => .inr hk)).then (hk.mono (fun k _ hk => .inr (hk.perm (swp_perm hi hnl))))).then (hk3.mono (fun k _ hk => ?_)), hv3, ht3, hc4⟩
      rcases hk with hk | hk
      · exact .inl hk
      · exact .inr (.inl hk)
    have FIN := hide fin
    clear fin
    unfold wqI at *
    go_enter Try.func24, Try.ntmps24
    go_upto_region 4 with (first
      | (go_at_call 45; refine HL.out.mono ?_; clear HL; rintro e w0 ⟨rfl, e0⟩; subst e0)
      | (go_at_call 47; refine HS.out.mono ?_; clear HS; rintro e w1 ⟨rfl, hw1, hk1⟩))
    have hq1 := h.swp hi hnl hw1 hk1
    have HD1 := hide (HD.out w1 hq1)
    clear HD
    go_wp2_with (go_at_call 26; refine HD1.out.mono ?_; clear HD1; rintro e w2 ⟨b, H2, rfl, hp, ho, hq, hk, hS⟩; replace ho := hide ho)
    · rcases hS with ⟨rfl, hP⟩ | ⟨rfl, rfl, hU⟩
      · simp_all
      · have HU1 := hide (HU.out w2 hq hU)
        clear HU
        refine HU1.out.mono ?_
        rintro e w3 ⟨rfl, H3, hp3, hP3, ho3, hq3, hk3⟩
        have hn3 : n + 1 = H3.length := by rw [hp3.length_eq, hsl]; exact hn
        have HO3 := hide (HO.out w3 H3 hq3 hn3)
        clear HO
        replace ho3 := hide ho3
        go_wp2_with (go_at_call 49; refine HO3.out.mono ?_; rintro e w4 ⟨rfl, v', hq4, hk4, hv4, ht4, hc5⟩)
        go_ret
        have R := FIN.out w1 w3 _ H3 v' hw1 hk1 hp3 ho3.out hP3 (hk.then hk3) hq4 hk4 hv4 ht4 hc5
        exact ⟨by rw [R.1]; rfl, R.2⟩
    · rcases hS with ⟨rfl, hP2⟩ | ⟨rfl, rfl, hU⟩
      · have hn3 : n + 1 = H2.length := by rw [hp.length_eq, hsl]; exact hn
        have HO3 := hide (HO.out w2 H2 hq hn3)
        clear HO
        go_wp2_with (go_at_call 49; refine HO3.out.mono ?_; rintro e w4 ⟨rfl, v', hq4, hk4, hv4, ht4, hc5⟩)
        go_ret
        have R := FIN.out w1 w2 _ H2 v' hw1 hk1 hp ho.out hP2 hk hq4 hk4 hv4 ht4 hc5
        exact ⟨by rw [R.1]; rfl, R.2⟩
      · simp_all

end Go.Proofs.Ytpoahegccjgnjaa
