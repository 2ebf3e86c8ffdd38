/- Timers in memory: the slice of those who wait, each in a block of its own that tells its place; which of two is ahead. Conditions: those that each theorem states. -/
import Derived.Test.YtpoahegccjgnjaaYMath
namespace Go.Proofs.Ytpoahegccjgnjaa
open Go Go.RowKit
set_option linter.unusedVariables false
def ptV (x : Tm) : Value := .pointer (some ⟨x.b, 0, none⟩)
def tmC (x : Tm) (i : Nat) : Obj := .cells #[.int .i64 x.till, .int .i64 x.id, .int .i64 (i : Int)] 59 (0, 0)
/-- Those who wait, in memory. -/
structure Ws (w : World) (v : Value) (H : List Tm) : Prop where
  ow : Ow ptV 56 w 0 v H
  tb : ∀ i, i < H.length → w.heap[(ev H i).b]? = some (tmC (ev H i) i)
  nd : (H.map Tm.b).Nodup
  sep : ∀ g, v.ownBlock = some g → ∀ i, i < H.length → (ev H i).b ≠ g
  len : H.length ≤ 1000000
/-- Their blocks. -/
def Ft (v : Value) (H : List Tm) (k : Nat) : Prop := v.ownBlock = some k ∨ ∃ i, i < H.length ∧ (ev H i).b = k
theorem tm_cells {w : World} {x : Tm} {i : Nat} (h : w.heap[x.b]? = some (tmC x i)) : w.cell? ⟨x.b, 0, none⟩ = some (.int .i64 x.till) ∧ w.cell? ⟨x.b, 1, none⟩ = some (.int .i64 x.id) ∧ w.cell? ⟨x.b, 2, none⟩ = some (.int .i64 (i : Int)) ∧ (∀ j, w.frozen? ⟨x.b, j, none⟩ = false) := by
  unfold tmC at h
  refine ⟨?_, ?_, ?_, fun j => ?_⟩
  · rw [cell_of_row _ _ 0 _ _ (0, 0) h]; rfl
  · rw [cell_of_row _ _ 1 _ _ (0, 0) h]; rfl
  · rw [cell_of_row _ _ 2 _ _ (0, 0) h]; rfl
  · unfold World.frozen?
    rw [show w.heap[(⟨x.b, j, none⟩ : Addr).block]? = _ from h]
    simp
theorem Ws.kept {w w' : World} {v : Value} {H : List Tm} {S : Nat → Prop} (h : Ws w v H) (hk : Kp S w w') (hS : ∀ k, Ft v H k → ¬ S k) : Ws w' v H :=
  ⟨h.ow.kept hk (fun k hk' => hS k (.inl hk')), fun i hi => by
    have := h.tb i hi
    rw [hk.block _ (Array.getElem?_eq_some_iff.1 this).1 (hS _ (.inr ⟨i, hi, rfl⟩))]
    exact this, h.nd, h.sep, h.len⟩
theorem Ws.keptN {w w' : World} {v : Value} {H : List Tm} (h : Ws w v H) (hk : Kp none' w w') : Ws w' v H := h.kept hk (fun _ _ h => h)
theorem Ft.lt {w : World} {v : Value} {H : List Tm} (h : Ws w v H) {k : Nat} (hk : Ft v H k) : k < w.heap.size := by
  rcases hk with hk | ⟨i, hi, rfl⟩
  · exact (h.ow.lt k hk).2
  · exact (Array.getElem?_eq_some_iff.1 (h.tb i hi)).1
theorem b_inj {H : List Tm} (hn : (H.map Tm.b).Nodup) {i j : Nat} (hi : i < H.length) (hj : j < H.length) (h : (ev H i).b = (ev H j).b) : i = j := by
  rw [ev_lt hi, ev_lt hj] at h
  have := (List.nodup_iff_pairwise_ne.1 hn)
  rcases Nat.lt_trichotomy i j with hlt | e | hgt
  · exact absurd (show (H.map Tm.b)[i]'(by simpa using hi) = (H.map Tm.b)[j]'(by simpa using hj) by rw [List.getElem_map, List.getElem_map]; exact h) (List.pairwise_iff_getElem.1 this i j (by simpa using hi) (by simpa using hj) hlt)
  · exact e
  · exact absurd (show (H.map Tm.b)[j]'(by simpa using hj) = (H.map Tm.b)[i]'(by simpa using hi) by rw [List.getElem_map, List.getElem_map]; exact h.symm) (List.pairwise_iff_getElem.1 this j i (by simpa using hj) (by simpa using hi) hgt)
set_option maxRecDepth 100000 in
set_option maxHeartbeats 400000 in
theorem ahead_any (x y : Tm) (i j : Nat) (w : World) (hx : w.heap[x.b]? = some (tmC x i)) (hy : w.heap[y.b]? = some (tmC y j)) :
    Calls Try.prog 48 #[ptV x, ptV y] w fun e w' => e = .returned (.bool (decide (Ah x y))) ∧ ∃ m, w' = w.drewN m := by
  obtain ⟨a0, a1, _, _⟩ := tm_cells hx
  obtain ⟨b0, b1, _, _⟩ := tm_cells hy
  obtain ⟨R, HR⟩ : ∃ R, Hid (decide (Ah x y) = R) := ⟨_, rfl⟩
  rw [HR.out]
  unfold ptV
  obtain ⟨xt, xi, xb⟩ := x
  obtain ⟨yt, yi, yb⟩ := y
  dsimp only at a0 a1 b0 b1 ⊢
  clear hx hy
  go_enter Try.func48, Try.ntmps48
  by_cases h : xt = yt
  · subst h
    have hR : decide (xi < yi) = R := by
      rw [← HR.out]
      simp [Ah, Ap, Tm.pr]
    go_upto_region 1 with fail
    go_quiet (fail)
    go_upto_region 3 with fail
    go_quiet (fail)
    go_wp2
    go_ret
    exact ⟨rfl, _, rfl⟩
  · have hR : decide (xt < yt) = R := by
      rw [← HR.out]
      simp [Ah, Ap, Tm.pr, h]
    go_upto_region 1 with fail
    go_quiet (fail)
    go_upto_region 2 with fail
    go_quiet (fail)
    go_wp2
    go_ret
    exact ⟨rfl, _, rfl⟩
set_option maxRecDepth 100000 in
set_option maxHeartbeats 400000 in
theorem less_any (v : Value) (H : List Tm) (i j : Nat) (w : World) (h : Ws w v H) (hi : i < H.length) (hj : j < H.length) :
    Calls Try.prog 46 #[v, .int .i64 i, .int .i64 j] w fun e w' => e = .returned (.bool (decide (Ah (ev H i) (ev H j)))) ∧ ∃ m, w' = w.drewN m := by
  obtain ⟨a, c, e0, ho⟩ := h.ow.open
  have hl := h.len
  have C := fun W (hk : Kp none' w W) => ahead_any (ev H i) (ev H j) i j W ((h.keptN hk).tb i hi) ((h.keptN hk).tb j hj)
  obtain ⟨g, e1, _, ci⟩ := ho i hi
  obtain ⟨g', e2, _, cj⟩ := ho j hj
  rw [← ev_lt hi] at ci
  rw [← ev_lt hj] at cj
  subst e1
  cases e2
  subst e0
  obtain ⟨R, HR⟩ : ∃ R, Hid (decide (Ah (ev H i) (ev H j)) = R) := ⟨_, rfl⟩
  rw [HR.out] at C ⊢
  have hi' : (i : Int) < (H.length : Int) := by omega
  have hj' : (j : Int) < (H.length : Int) := by omega
  obtain ⟨x, HX⟩ : ∃ x, Hid (ev H i = x) := ⟨_, rfl⟩
  obtain ⟨y, HY⟩ : ∃ y, Hid (ev H j = y) := ⟨_, rfl⟩
  rw [HX.out] at ci C
  rw [HY.out] at cj C
  have HC := hide C
  clear C h ho
  unfold ptV at ci cj HC
  go_enter Try.func46, Try.ntmps46
  go_upto_region 1 with fail
  go_quiet ((go_at_call 48; exact Calls.quiet_of (HC.out _ (Kp.drewN _ _ _))))
  go_wp2
  go_ret
  exact ⟨rfl, _, rfl⟩
set_option maxRecDepth 100000 in
set_option maxHeartbeats 400000 in
theorem wlen_any (v : Value) (H : List Tm) (w : World) (h : Ws w v H) :
    Calls Try.prog 45 #[v] w fun e w' => e = .returned (.int .i64 (H.length : Int)) ∧ w' = w := by
  obtain ⟨a, c, e0, ho⟩ := h.ow.open
  subst e0
  clear h ho
  go_enter Try.func45, Try.ntmps45
  go_wp2
  go_ret
  exact ⟨rfl, rfl⟩
theorem Ow.frz {α : Type} {f : α → Value} {e : TypeId} {w : World} {base g n cap : Nat} {l : List α} (h : Ow f e w base (.slice (some ⟨g, 0, none⟩) n cap) l) (k : Nat) : w.frozen? ⟨g, k, none⟩ = false := by
  rcases h.2 with ⟨q, _⟩ | ⟨g2, cap, cur, q, _, hg2, _⟩
  · cases q
  · cases q
    unfold World.frozen?
    rw [show w.heap[(⟨g, k, none⟩ : Addr).block]? = _ from hg2]
    simp
theorem ev_swp_ex {H : List Tm} {i j : Nat} (hi : i < H.length) (hj : j < H.length) (k : Nat) (hk : k < H.length) : ∃ k', k' < H.length ∧ ev (swp H i j) k = ev H k' := by
  rw [ev_swp hi hj]
  split
  · exact ⟨i, hi, rfl⟩
  · split
    · exact ⟨j, hj, rfl⟩
    · exact ⟨k, hk, rfl⟩
theorem Ow.at {w : World} {g n cap : Nat} {H : List Tm} (h : Ow ptV 56 w 0 (.slice (some ⟨g, 0, none⟩) n cap) H) (k : Nat) (hk : k < H.length) : w.cell? ⟨g, k, none⟩ = some (.pointer (some ⟨(ev H k).b, 0, none⟩)) := by
  rcases h.shape with ⟨q, _⟩ | ⟨g2, cap, q, _, _, hc⟩
  · cases q
  · cases q
    rw [hc k hk, ev_lt hk]
    rfl
theorem swp_nd {H : List Tm} {i j : Nat} (h : (H.map Tm.b).Nodup) (hi : i < H.length) (hj : j < H.length) : ((swp H i j).map Tm.b).Nodup := ((swp_perm hi hj).map _).nodup_iff.2 h
theorem tb_put {w : World} {x : Tm} {i : Nat} (h : w.heap[x.b]? = some (tmC x i)) (k : Nat) : (w.setCell ⟨x.b, 2, none⟩ (.int .i64 (k : Int))).heap[x.b]? = some (tmC x k) := heap_setCell_same _ _ 2 _ _ _ h
theorem tb_other {w : World} {x : Tm} {i : Nat} {b o : Nat} {u : Value} (h : w.heap[x.b]? = some (tmC x i)) (hb : x.b ≠ b) : (w.setCell ⟨b, o, none⟩ u).heap[x.b]? = some (tmC x i) := by
  rw [heap_setCell_other w ⟨b, o, none⟩ x.b u (fun e => hb e)]
  exact h
set_option maxRecDepth 100000 in
set_option maxHeartbeats 400000 in
theorem wswap_any (v : Value) (H : List Tm) (i j : Nat) (w : World) (h : Ws w v H) (hi : i < H.length) (hj : j < H.length) :
    Calls Try.prog 47 #[v, .int .i64 i, .int .i64 j] w fun e w' => e = .returned (.tuple #[]) ∧ Ws w' v (swp H i j) ∧ Kp (Ft v H) w w' := by
  obtain ⟨a, c, e0, ho⟩ := h.ow.open
  have hl := h.len
  obtain ⟨g, e1, -, -⟩ := ho i hi
  subst e1
  subst e0
  have hi' : (i : Int) < (H.length : Int) := by omega
  have hj' : (j : Int) < (H.length : Int) := by omega
  have ci := h.ow.at i hi
  have cj := h.ow.at j hj
  have g1 := h.ow.frz i
  have g2 := h.ow.frz j
  -- the world behind the first row
  have s1 := h.ow.stored i (ev H j)
  have k1 := s1.1.at j (by rw [List.length_set]; exact hj)
  have k2 := s1.1.frz j
  have s2 := s1.1.stored j (ev H i)
  have O2 : Ow ptV 56 _ 0 (.slice (some ⟨g, 0, none⟩) H.length c) (swp H i j) := s2.1
  have K2 : Kp (only g) w _ := (Kp.ofGrown s1.2 (S := only g) (fun _ h _ => by cases h; rfl)).then (Kp.ofGrown s2.2 (S := only g) (fun _ h _ => by cases h; rfl))
  have hsep := h.sep g rfl
  have T2 : ∀ k, k < H.length → (((w.setCell ⟨g, i, none⟩ (ptV (ev H j))).setCell ⟨g, j, none⟩ (ptV (ev H i))).drew).heap[(ev H k).b]? = some (tmC (ev H k) k) := fun k hk => by
    have := h.tb k hk
    rw [← K2.block _ (Array.getElem?_eq_some_iff.1 this).1 (fun e => hsep k hk e)] at this
    exact this
  replace O2 := O2.keptN (Kp.drew none' _)
  replace K2 := K2.then (Kp.drew _ _)
  have Hh := hide h
  unfold ptV at k1 k2 T2 O2 K2
  clear h ho s1 s2
  have hlen := swp_len H i j
  -- who stands there then
  have ci2 := O2.at i (by rw [hlen]; exact hi)
  have cj2 := O2.at j (by rw [hlen]; exact hj)
  obtain ⟨q1, hq1, E1⟩ := ev_swp_ex hi hj i hi
  obtain ⟨q2, hq2, E2⟩ := ev_swp_ex hi hj j hj
  have t1 := T2 q1 hq1
  have t2 := T2 q2 hq2
  rw [← E1] at t1
  rw [← E2] at t2
  obtain ⟨x, HX⟩ : ∃ x, Hid (ev (swp H i j) i = x) := ⟨_, rfl⟩
  obtain ⟨y, HY⟩ : ∃ y, Hid (ev (swp H i j) j = y) := ⟨_, rfl⟩
  rw [HX.out] at ci2 t1
  rw [HY.out] at cj2 t2
  have xg : x.b ≠ g := by rw [← HX.out, E1]; exact hsep q1 hq1
  have yg : y.b ≠ g := by rw [← HY.out, E2]; exact hsep q2 hq2
  have hnd := swp_nd Hh.out.nd hi hj
  have hxy : i ≠ j → y.b ≠ x.b := fun hne e => hne (b_inj hnd (by rw [hlen]; exact hi) (by rw [hlen]; exact hj) (by rw [HX.out, HY.out]; exact e.symm))
  have hxy' : i = j → y = x := fun e => by rw [← HX.out, ← HY.out, e]
  go_enter Try.func47, Try.ntmps47
  go_upto_region 0 with fail
  go_region
  have T2h := hide T2
  clear T2 k1 k2 ci cj g1 g2
  revert ci2; revert cj2; revert t1; revert t2; revert O2; revert K2; revert T2h
  generalize ((w.setCell ⟨g, i, none⟩ (.pointer (some ⟨(ev H j).b, 0, none⟩))).setCell ⟨g, j, none⟩ (.pointer (some ⟨(ev H i).b, 0, none⟩))).drew = W2
  intro T2h K2 O2 t2 t1 cj2 ci2
  have tx := tb_put t1 i
  obtain ⟨u0, ty⟩ : ∃ u : Nat, (W2.setCell ⟨x.b, 2, none⟩ (.int .i64 (i : Int))).heap[y.b]? = some (tmC y u) := by
    by_cases e : i = j
    · rw [hxy' e]
      exact ⟨i, tx⟩
    · exact ⟨_, tb_other t2 (hxy e)⟩
  obtain ⟨_, _, x2, xf⟩ := tm_cells t1
  have xf2 := xf 2
  obtain ⟨_, _, y2, yf⟩ := tm_cells ty
  have yf2 := yf 2
  clear xf yf
  go_upto_region 1 with fail
  go_region
  go_wp2
  go_end0
  have hx : x.b = (ev H q1).b := by rw [← HX.out, E1]
  have hy : y.b = (ev H q2).b := by rw [← HY.out, E2]
  have KA : Kp (Ft (.slice (some ⟨g, 0, none⟩) H.length c) H) W2 ((W2.setCell ⟨x.b, 2, none⟩ (.int .i64 (i : Int))).setCell ⟨y.b, 2, none⟩ (.int .i64 (j : Int))).drew :=
    ((Kp.setCell _ _ _ _ (.inr ⟨q1, hq1, hx.symm⟩)).then (Kp.setCell _ _ _ _ (.inr ⟨q2, hq2, hy.symm⟩))).then (Kp.drew _ _)
  have KB : Kp (fun k => k = x.b ∨ k = y.b) W2 ((W2.setCell ⟨x.b, 2, none⟩ (.int .i64 (i : Int))).setCell ⟨y.b, 2, none⟩ (.int .i64 (j : Int))).drew :=
    ((Kp.setCell _ _ _ _ (.inl rfl)).then (Kp.setCell _ _ _ _ (.inr rfl))).then (Kp.drew _ _)
  refine ⟨rfl, ⟨O2.kept KB (fun k hk hs => ?_), fun k hk => ?_, hnd, fun g' hg' k hk => ?_, by rw [hlen]; exact hl⟩, (K2.mono (fun k _ hk => .inl (by cases hk; rfl))).then KA⟩
  · cases hk
    rcases hs with hs | hs
    · exact xg hs.symm
    · exact yg hs.symm
  · rw [hlen] at hk
    have tz := tb_put ty j
    by_cases kj : k = j
    · rw [kj, HY.out]
      exact tz
    · by_cases ki : k = i
      · rw [ki, HX.out]
        exact tb_other tx (fun e => hxy (by omega) e.symm)
      · have ez : ev (swp H i j) k = ev H k := by rw [ev_swp hi hj, if_neg kj, if_neg ki]
        have nx : (ev (swp H i j) k).b ≠ x.b := fun e => ki (b_inj hnd (by rw [hlen]; exact hk) (by rw [hlen]; exact hi) (by rw [HX.out]; exact e))
        have ny : (ev (swp H i j) k).b ≠ y.b := fun e => kj (b_inj hnd (by rw [hlen]; exact hk) (by rw [hlen]; exact hj) (by rw [HY.out]; exact e))
        have t0 := T2h.out k hk
        rw [← ez] at t0
        exact tb_other (tb_other t0 nx) ny
  · cases hg'
    obtain ⟨q, hq, E⟩ := ev_swp_ex hi hj k (by rw [hlen] at hk; exact hk)
    rw [E]
    exact hsep q hq

end Go.Proofs.Ytpoahegccjgnjaa
