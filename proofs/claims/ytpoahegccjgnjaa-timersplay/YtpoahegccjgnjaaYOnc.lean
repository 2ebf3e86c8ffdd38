/- The law's own lists beside timers: two rows of numbers that grow side by side; what is due is due once. Conditions: those that each theorem states. -/
import Derived.Test.YtpoahegccjgnjaaYLaw
namespace Go.Proofs.Ytpoahegccjgnjaa
open Go Go.RowKit
set_option linter.unusedVariables false
theorem infoL : (Try.prog.info? 2).map (fun i => (i.zero, i.size, i.bytes)) = some (some (.int .i64 0), 1, 8) := by kernel_rfl
theorem app_l (w : World) (base : Nat) (v : Value) (l : List Int) (x : Int) (T e : TypeId) (hT : Try.prog.underlying T = some (.slice e)) (hI : (Try.prog.info? e).map (fun i => (i.zero, i.size, i.bytes)) = some (some (.int .i64 0), 1, 8)) (hO : Ow (Value.int .i64) e w base v l) (hb : base ≤ w.heap.size) (hl : l.length ≤ 1000000) :
    ∃ v' w', (Builtin.append_ #[T, T] T #[v, .slice (some ⟨w.heap.size, 0, none⟩) 1 1]).run Try.prog (w.alloc (.cells #[.int .i64 x] e)) = .ok v' w' ∧ Ow (Value.int .i64) e w' base v' (l ++ [x]) ∧ (w.alloc (.cells #[.int .i64 x] e)).grownBy w' v.ownBlock ∧ (v'.ownBlock = v.ownBlock ∨ v'.ownBlock = some (w.heap.size + 1)) := by
  obtain ⟨i0, hi, hz0, hz1, hz2⟩ := info_parts hI
  have hO' : Ow (Value.int .i64) e (w.alloc (.cells #[.int .i64 x] e)) base v l := hO.keptN (Kp.alloc none' _ _)
  obtain ⟨v', w', h1, h2, h3, h4⟩ := run_append_own_row (P := Try.prog) _ base T T T e i0 _ 1 8 hT hi hz0 (by rfl) hz1 hz2 v l.length (l.map (Value.int .i64)) hO' _ 1 [.int .i64 x] (src_cell w T e hT (.int .i64 x) rfl w.heap.size rfl) (by omega) (by omega) (by unfold maxLen; omega) (by rw [World.size_alloc]; omega)
  refine ⟨v', w', h1, ?_, h3, by rw [World.size_alloc] at h4; exact h4⟩
  unfold Ow
  rw [List.length_append, List.map_append]
  exact h2
/-- Two rows of numbers, in blocks of their own from B on. -/
structure Pr2 (w : World) (B : Nat) (u v : Value) (A C : List Int) : Prop where
  ou : Ow (Value.int .i64) 3 w B u A
  ov : Ow (Value.int .i64) 2 w B v C
  ne : ∀ g, u.ownBlock = some g → v.ownBlock ≠ some g
theorem Pr2.nil (w : World) (B : Nat) : Pr2 w B (.slice none 0 0) (.slice none 0 0) [] [] := ⟨Ow.nil _ _ _ _, Ow.nil _ _ _ _, fun g hg => by cases hg⟩
theorem Pr2.kept {w w' : World} {B : Nat} {u v : Value} {A C : List Int} {S : Nat → Prop} (h : Pr2 w B u v A C) (hk : Kp S w w') (hu : ∀ g, u.ownBlock = some g → ¬ S g) (hv : ∀ g, v.ownBlock = some g → ¬ S g) : Pr2 w' B u v A C := ⟨h.ou.kept hk hu, h.ov.kept hk hv, h.ne⟩
theorem Pr2.keptN {w w' : World} {B : Nat} {u v : Value} {A C : List Int} (h : Pr2 w B u v A C) (hk : Kp none' w w') : Pr2 w' B u v A C := h.kept hk (fun _ _ h => h) (fun _ _ h => h)
theorem Ow.base {α : Type} {f : α → Value} {e : TypeId} {w : World} {b b' : Nat} {v : Value} {l : List α} (h : Ow f e w b v l) (hb : b' ≤ b) : Ow f e w b' v l := by
  refine ⟨h.1, ?_⟩
  rcases h.2 with h2 | ⟨g, cap, cur, h1, h2, h3⟩
  · exact .inl h2
  · exact .inr ⟨g, cap, cur, h1, by omega, h3⟩
theorem Pr2.base {w : World} {B B' : Nat} {u v : Value} {A C : List Int} (h : Pr2 w B u v A C) (hb : B' ≤ B) : Pr2 w B' u v A C := ⟨h.ou.base hb, h.ov.base hb, h.ne⟩
theorem Pr2.pushU {w : World} {B : Nat} {u v : Value} {A C : List Int} (h : Pr2 w B u v A C) (x : Int) (hb : B ≤ w.heap.size) (hl : A.length ≤ 1000000) :
    ∃ u' w', (Builtin.append_ #[37, 37] 37 #[u, .slice (some ⟨w.heap.size, 0, none⟩) 1 1]).run Try.prog (w.alloc (.cells #[.int .i64 x] 3)) = .ok u' w' ∧ Pr2 w' B u' v (A ++ [x]) C ∧ Kp (fun k => u.ownBlock = some k) w w' ∧ (u'.ownBlock = u.ownBlock ∨ u'.ownBlock = some (w.heap.size + 1)) := by
  obtain ⟨u', w', hr, ho, hg, hn⟩ := app_l w B u A x 37 3 Try.underlying37 infoI h.ou hb hl
  have K : Kp (fun k => u.ownBlock = some k) w w' := (Kp.alloc _ _ _).then (Kp.ofGrown hg (fun k hk _ => hk))
  refine ⟨u', w', hr, ⟨ho, h.ov.kept K (fun g hv hu => h.ne g hu hv), fun g hg' hv => ?_⟩, K, hn⟩
  rcases hn with e | e
  · exact h.ne g (e ▸ hg') hv
  · rw [e] at hg'
    cases hg'
    have := (h.ov.lt _ hv).2
    omega
theorem Pr2.pushV {w : World} {B : Nat} {u v : Value} {A C : List Int} (h : Pr2 w B u v A C) (x : Int) (hb : B ≤ w.heap.size) (hl : C.length ≤ 1000000) :
    ∃ v' w', (Builtin.append_ #[46, 46] 46 #[v, .slice (some ⟨w.heap.size, 0, none⟩) 1 1]).run Try.prog (w.alloc (.cells #[.int .i64 x] 2)) = .ok v' w' ∧ Pr2 w' B u v' A (C ++ [x]) ∧ Kp (fun k => v.ownBlock = some k) w w' ∧ (v'.ownBlock = v.ownBlock ∨ v'.ownBlock = some (w.heap.size + 1)) := by
  obtain ⟨v', w', hr, ho, hg, hn⟩ := app_l w B v C x 46 2 Try.underlying46 infoL h.ov hb hl
  have K : Kp (fun k => v.ownBlock = some k) w w' := (Kp.alloc _ _ _).then (Kp.ofGrown hg (fun k hk _ => hk))
  refine ⟨v', w', hr, ⟨h.ou.kept K (fun g hu hv => h.ne g hu hv), ho, fun g hu hg' => ?_⟩, K, hn⟩
  rcases hn with e | e
  · exact h.ne g hu (e ▸ hg')
  · rw [e] at hg'
    cases hg'
    have := (h.ou.lt _ hu).2
    omega
theorem rest_filter {now : Int} : ∀ {L : List (Int × Int)}, L.Pairwise Ap → restL now L = L.filter (fun q => decide (now < q.1))
  | [], _ => rfl
  | q :: T, h => by
    have hq := List.pairwise_cons.1 h
    have hr := rest_above (now := now) h
    unfold restL at hr ⊢
    by_cases hd : q.1 ≤ now
    · have := rest_filter (now := now) hq.2
      unfold restL at this
      rw [List.dropWhile_cons_of_pos (by simpa using hd), this, List.filter_cons_of_neg (by simp; omega)]
    · rw [List.dropWhile_cons_of_neg (by simpa using hd)] at hr ⊢
      rw [List.filter_eq_self.2]
      exact fun r hr' => by simpa using hr r hr'
theorem due_mem {now : Int} {L : List (Int × Int)} (h : L.Pairwise Ap) (hn : (L.map (·.2)).Nodup) {t id : Int} (hm : (t, id) ∈ L) : id ∈ dueL now L ↔ t ≤ now := by
  have hs : L.takeWhile (fun q => decide (q.1 ≤ now)) ++ restL now L = L := List.takeWhile_append_dropWhile
  constructor
  · intro hd
    obtain ⟨q, hq, e⟩ := List.mem_map.1 hd
    have hle := List.all_eq_true.1 (List.all_takeWhile (p := fun q : Int × Int => decide (q.1 ≤ now)) (l := L)) q hq
    have hqL : q ∈ L := by rw [← hs]; exact List.mem_append.2 (.inl hq)
    have e1 := tillL_some hn hm
    have e2 := tillL_some (t := q.1) (id := id) hn (by rw [← e]; exact hqL)
    rw [e1] at e2
    cases e2
    simpa using hle
  · intro hd
    rw [← hs] at hm
    rcases List.mem_append.1 hm with hm | hm
    · exact List.mem_map.2 ⟨_, hm, rfl⟩
    · have := rest_above h _ hm
      simp at this
      omega
theorem count_one : ∀ {l : List Int} {x : Int}, l.Nodup → x ∈ l → l.count x = 1
  | [], _, _, h => by simp at h
  | y :: l, x, hn, h => by
    rw [List.nodup_cons] at hn
    by_cases e : y = x
    · subst e
      rw [List.count_cons_self, List.count_eq_zero_of_not_mem hn.1]
    · rw [List.count_cons_of_ne e]
      rcases List.mem_cons.1 h with h | h
      · exact absurd h.symm e
      · exact count_one hn.2 h
theorem due_count {now : Int} {L : List (Int × Int)} (h : L.Pairwise Ap) (hn : (L.map (·.2)).Nodup) {t id : Int} (hm : (t, id) ∈ L) : (dueL now L).count id = if t ≤ now then 1 else 0 := by
  have hnd : (dueL now L).Nodup := hn.sublist ((List.takeWhile_sublist _).map _)
  split
  · rename_i hd
    exact count_one hnd ((due_mem h hn hm).2 hd)
  · rename_i hd
    exact List.count_eq_zero_of_not_mem (fun hh => hd ((due_mem h hn hm).1 hh))
def keepL (now : Int) (Q : List (Int × Int)) : List (Int × Int) := Q.filter (fun q => decide (now < q.1))

/-- The law's state: timers with the pairs L, beside them the same pairs in two rows. -/
structure Onc (w wr : World) (p : Nat) (F : Nat → Prop) (u v : Value) (L Q : List (Int × Int)) : Prop where
  tm : Tim wr p F L
  pr : Pr2 wr w.heap.size u v (Q.map (·.2)) (Q.map (·.1))
  pm : Q.Perm L
  fu : ∀ g, u.ownBlock = some g → ¬ F g
  fv : ∀ g, v.ownBlock = some g → ¬ F g
  bd : ∀ k, F k → w.heap.size ≤ k
  kp : Kp none' w wr
theorem Onc.kept {w wr wx : World} {p : Nat} {F : Nat → Prop} {u v : Value} {L Q : List (Int × Int)} (h : Onc w wr p F u v L Q) (hk : Kp none' wr wx) : Onc w wx p F u v L Q :=
  ⟨h.tm.kept hk (fun _ _ h => h), h.pr.keptN hk, h.pm, h.fu, h.fv, h.bd, h.kp.then hk⟩
/-- A row of numbers that is read. -/
def Rd (w : World) (v : Value) (A : List Int) : Prop := ∃ a c, v = .slice a A.length c ∧ ∀ j (hj : j < A.length), ∃ g, a = some ⟨g, 0, none⟩ ∧ w.cell? ⟨g, j, none⟩ = some (.int .i64 A[j])
theorem Ow.rd {e : TypeId} {w : World} {b : Nat} {v : Value} {A : List Int} (h : Ow (Value.int .i64) e w b v A) : Rd w v A := by
  obtain ⟨a, c, e, hc⟩ := h.open
  exact ⟨a, c, e, fun j hj => by
    obtain ⟨g, h1, _, h2⟩ := hc j hj
    exact ⟨g, h1, h2⟩⟩

theorem keep_yes {t : Int} {Q : List (Int × Int)} {j : Nat} (hj : j < Q.length) (h : t < Q[j].1) : keepL t (Q.take (j + 1)) = keepL t (Q.take j) ++ [Q[j]] := by
  unfold keepL
  rw [List.take_succ_eq_append_getElem hj, List.filter_append, List.filter_cons_of_pos (by simpa using h)]
  rfl
theorem keep_no {t : Int} {Q : List (Int × Int)} {j : Nat} (hj : j < Q.length) (h : Q[j].1 ≤ t) : keepL t (Q.take (j + 1)) = keepL t (Q.take j) := by
  unfold keepL
  rw [List.take_succ_eq_append_getElem hj, List.filter_append, List.filter_cons_of_neg (by simp; omega)]
  simp
theorem keep_len {t : Int} {Q : List (Int × Int)} (j : Nat) : (keepL t (Q.take j)).length ≤ j := by
  unfold keepL
  refine Nat.le_trans (List.length_filter_le _ _) ?_
  rw [List.length_take]
  omega
theorem drop_yes {id : Int} {Q : List (Int × Int)} {j : Nat} (hj : j < Q.length) (h : Q[j].2 ≠ id) : dropL id (Q.take (j + 1)) = dropL id (Q.take j) ++ [Q[j]] := by
  unfold dropL
  rw [List.take_succ_eq_append_getElem hj, List.filter_append, List.filter_cons_of_pos (by simpa using h)]
  rfl
theorem drop_no {id : Int} {Q : List (Int × Int)} {j : Nat} (hj : j < Q.length) (h : Q[j].2 = id) : dropL id (Q.take (j + 1)) = dropL id (Q.take j) := by
  unfold dropL
  rw [List.take_succ_eq_append_getElem hj, List.filter_append, List.filter_cons_of_neg (by simpa using h)]
  simp
theorem drop_len {id : Int} {Q : List (Int × Int)} (j : Nat) : (dropL id (Q.take j)).length ≤ j := by
  unfold dropL
  refine Nat.le_trans (List.length_filter_le _ _) ?_
  rw [List.length_take]
  omega
theorem count_step {D : List Int} {m : Nat} (hm : m < D.length) (x : Int) : (D.take (m + 1)).count x = (D.take m).count x + if D[m] = x then 1 else 0 := by
  rw [List.take_succ_eq_append_getElem hm, List.count_append, List.count_singleton]
  by_cases e : D[m] = x
  · simp [e]
  · simp [e]
theorem Rd.keptN {w w' : World} {v : Value} {A : List Int} (h : Rd w v A) (hk : Kp none' w w') : Rd w' v A := by
  obtain ⟨a, c, e, hc⟩ := h
  exact ⟨a, c, e, fun j hj => by
    obtain ⟨g, h1, h2⟩ := hc j hj
    exact ⟨g, h1, hk.cell h2 (fun h => h)⟩⟩

theorem set_perm2 {id t : Int} {L Q : List (Int × Int)} (h : Q.Perm L) : (dropL id Q ++ [(t, id)]).Perm (setL id t L) := by
  have h1 : (dropL id Q).Perm (dropL id L) := h.filter _
  exact ((List.perm_append_comm (l₁ := dropL id Q) (l₂ := [(t, id)])).trans (h1.cons _)).trans (insL_perm _ _).symm

end Go.Proofs.Ytpoahegccjgnjaa
