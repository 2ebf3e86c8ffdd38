/- What the laws of timers count, without memory; a script that came in. Conditions: those that each theorem states. -/
import Derived.Test.YtpoahegccjgnjaaYNew
import Derived.Test.YtpoahegccjgnjaaYOpen
namespace Go.Proofs.Ytpoahegccjgnjaa
open Go Go.RowKit
set_option linter.unusedVariables false
def Tp.pr (o : Tp) : Int × Int := (o.t, o.id)
theorem setL_perm {id t : Int} {L : List (Int × Int)} (h : id ∉ L.map (·.2)) : (setL id t L).Perm ((t, id) :: L) := by
  unfold setL
  rw [dropL_none h]
  exact insL_perm _ _
theorem rest_len {now : Int} : ∀ {L : List (Int × Int)}, L.Pairwise Ap → (restL now L).length = L.countP (fun q => decide (now < q.1))
  | [], _ => rfl
  | q :: T, h => by
    have hq := List.pairwise_cons.1 h
    unfold restL
    by_cases hd : q.1 ≤ now
    · have := rest_len (now := now) hq.2
      unfold restL at this
      rw [List.dropWhile_cons_of_pos (by simpa using hd), this, List.countP_cons_of_neg (by simp; omega)]
    · rw [List.dropWhile_cons_of_neg (by simpa using hd), List.countP_eq_length.2]
      intro r hr
      rcases List.mem_cons.1 hr with rfl | hr
      · simp; omega
      · have := hq.1 r hr
        unfold Ap at this
        simp
        omega
theorem due_len (now : Int) (L : List (Int × Int)) : (dueL now L).length + (restL now L).length = L.length := by
  unfold dueL restL
  rw [List.length_map, ← List.length_append, List.takeWhile_append_dropWhile]
theorem rest_sorted {now : Int} {L : List (Int × Int)} (h : L.Pairwise Ap) : (restL now L).Pairwise Ap := h.sublist (List.dropWhile_sublist _)
theorem rest_above {now : Int} : ∀ {L : List (Int × Int)}, L.Pairwise Ap → ∀ q ∈ restL now L, now < q.1
  | [], _ => by simp [restL]
  | q :: T, h => by
    have hq := List.pairwise_cons.1 h
    unfold restL
    by_cases hd : q.1 ≤ now
    · rw [List.dropWhile_cons_of_pos (by simpa using hd)]
      exact rest_above hq.2
    · rw [List.dropWhile_cons_of_neg (by simpa using hd)]
      intro r hr
      rcases List.mem_cons.1 hr with rfl | hr
      · omega
      · have := hq.1 r hr
        unfold Ap at this
        omega
theorem Tim.sorted {w : World} {p : Nat} {F : Nat → Prop} {L : List (Int × Int)} (h : Tim w p F L) : L.Pairwise Ap := by
  obtain ⟨m, v, H, c, es, cl, h⟩ := h
  exact h.rep.sorted
theorem Tim.ids {w : World} {p : Nat} {F : Nat → Prop} {L : List (Int × Int)} (h : Tim w p F L) : (L.map (·.2)).Nodup := by
  obtain ⟨m, v, H, c, es, cl, h⟩ := h
  exact h.rep.lids
/-- Of a script: its steps lie in memory, in whatever world the law makes. -/
def Scr (w : World) (a : Option Addr) (L : List Tp) : Prop := ∀ i (h : i < L.length), ∃ b off, a = some ⟨b, off, none⟩ ∧ b < w.heap.size ∧ w.cell? ⟨b, off + i * 3, none⟩ = some (.int .i64 L[i].k) ∧ w.cell? ⟨b, off + i * 3 + 1, none⟩ = some (.int .i64 L[i].id) ∧ w.cell? ⟨b, off + i * 3 + 2, none⟩ = some (.int .i64 L[i].t)
theorem scr_of {w : World} {a : Option Addr} {len cap : Nat} {L : List Tp} (hB : Sts Tp.cells 3 (fun o _ => o.ok) w.heap.size w (.slice a len cap) L) :
    ∃ L2 : List Tp, L2.length ≤ 300 ∧ min len 300 = L2.length ∧ L2.length ≤ cap ∧ len ≤ cap ∧ cap ≤ maxLen ∧ Scr w a L2 := by
  obtain ⟨hlen, hcap, hcm⟩ : len = L.length ∧ L.length ≤ cap ∧ cap ≤ maxLen := by
    obtain ⟨a', c', h0, h1, h2, _⟩ := hB
    cases h0
    exact ⟨rfl, h1, h2⟩
  have hT := hB.take (min len 300) (by omega)
  have hTn : (L.take (min len 300)).length = min len 300 := by rw [List.length_take]; omega
  refine ⟨L.take (min len 300), by omega, hTn.symm, by omega, by omega, hcm, fun i hi => ?_⟩
  obtain ⟨a', c', h0, _, _, hcs⟩ := hT
  have ea : a = a' := by injection h0
  subst ea
  obtain ⟨b, off, e, hb, hr, _⟩ := hcs i hi
  exact ⟨b, off, e, hb, by have := hr 0 _ rfl; exact this, hr 1 _ rfl, hr 2 _ rfl⟩

theorem new_step (w : World) (y : Tp) : ∃ W, w.alloc (.cells #[.int .i64 y.k, .int .i64 y.id, .int .i64 y.t] 32) = W ∧ Kp none' w W ∧ W.cell? ⟨w.heap.size, 0, none⟩ = some (.int .i64 y.k) ∧ W.cell? ⟨w.heap.size, 1, none⟩ = some (.int .i64 y.id) ∧ W.cell? ⟨w.heap.size, 2, none⟩ = some (.int .i64 y.t) := by
  have h := heap_alloc_new w (.cells #[.int .i64 y.k, .int .i64 y.id, .int .i64 y.t] 32)
  refine ⟨_, rfl, Kp.alloc _ _ _, ?_, ?_, ?_⟩
  · rw [cell_of_row _ _ 0 _ _ (0, 0) h]; rfl
  · rw [cell_of_row _ _ 1 _ _ (0, 0) h]; rfl
  · rw [cell_of_row _ _ 2 _ _ (0, 0) h]; rfl
/-- No number twice, among the first i. -/
def Dst (L : List Tp) (i : Nat) : Prop := ∀ x y (hx : x < L.length) (hy : y < L.length), x < y → y < i → L[x].id ≠ L[y].id
theorem Dst.nodup {L : List Tp} (h : Dst L L.length) : (L.map Tp.id).Nodup := by
  rw [List.Nodup, List.pairwise_map, List.pairwise_iff_getElem]
  exact fun x y hx hy hxy => h x y hx hy hxy hy
theorem set_step {M : List Tp} {La : List (Int × Int)} {i : Nat} (hn : (M.map Tp.id).Nodup) (hi : i < M.length) (hp : La.Perm ((M.take i).map Tp.pr)) : (setL M[i].id M[i].t La).Perm ((M.take (i + 1)).map Tp.pr) := by
  have e : M.take (i + 1) = M.take i ++ [M[i]] := List.take_succ_eq_append_getElem hi
  have hn2 : ((M.take (i + 1)).map Tp.id).Nodup := hn.sublist ((List.take_sublist _ _).map _)
  rw [e, List.map_append, List.nodup_append] at hn2
  have hid : M[i].id ∉ La.map (·.2) := fun hm => by
    have h2 := (hp.map (·.2)).mem_iff.1 hm
    rw [List.map_map] at h2
    exact hn2.2.2 _ h2 _ (by simp) rfl
  refine (setL_perm hid).trans ?_
  rw [e, List.map_append]
  exact (hp.cons _).trans (List.perm_append_comm (l₁ := [M[i].pr]) (l₂ := (M.take i).map Tp.pr))
/-- Two timers side by side. -/
structure Two (w wr : World) (pa pb : Nat) (Fa Fb : Nat → Prop) (La Lb : List (Int × Int)) : Prop where
  ta : Tim wr pa Fa La
  tb : Tim wr pb Fb Lb
  dj : ∀ k, Fa k → ¬ Fb k
  ba : ∀ k, Fa k → w.heap.size ≤ k
  bb : ∀ k, Fb k → w.heap.size ≤ k
  kp : Kp none' w wr
theorem Two.kept {w wr wx : World} {pa pb : Nat} {Fa Fb : Nat → Prop} {La Lb : List (Int × Int)} (h : Two w wr pa pb Fa Fb La Lb) (hk : Kp none' wr wx) : Two w wx pa pb Fa Fb La Lb :=
  ⟨h.ta.kept hk (fun _ _ h => h), h.tb.kept hk (fun _ _ h => h), h.dj, h.ba, h.bb, h.kp.then hk⟩
theorem Two.setA {w wr wx : World} {pa pb : Nat} {Fa Fb : Nat → Prop} {La Lb La' : List (Int × Int)} (h : Two w wr pa pb Fa Fb La Lb) (hs : SetS pa Fa La' wr wx) : ∃ Fa', Two w wx pa pb Fa' Fb La' Lb := by
  obtain ⟨F', ht, f1, f2, hk⟩ := hs
  have hsz := h.kp.size
  refine ⟨F', ht, h.tb.kept hk (fun k hb ha => h.dj k ha hb), fun k ha hb => ?_, fun k hk => ?_, h.bb, h.kp.trans hk (fun _ _ h => h) (fun k hl hf => by have := h.ba k hf; omega)⟩
  · rcases f2 k ha with ha | ha
    · exact h.dj k ha hb
    · have := h.tb.lt k hb
      omega
  · rcases f2 k hk with ha | ha
    · exact h.ba k ha
    · omega
theorem Two.swap {w wr : World} {pa pb : Nat} {Fa Fb : Nat → Prop} {La Lb : List (Int × Int)} (h : Two w wr pa pb Fa Fb La Lb) : Two w wr pb pa Fb Fa Lb La := ⟨h.tb, h.ta, fun k hb ha => h.dj k ha hb, h.bb, h.ba, h.kp⟩
theorem Two.setB {w wr wx : World} {pa pb : Nat} {Fa Fb : Nat → Prop} {La Lb Lb' : List (Int × Int)} (h : Two w wr pa pb Fa Fb La Lb) (hs : SetS pb Fb Lb' wr wx) : ∃ Fb', Two w wx pa pb Fa Fb' La Lb' := by
  obtain ⟨F', h'⟩ := h.swap.setA hs
  exact ⟨F', h'.swap⟩
theorem Two.turnA {w wr wx : World} {pa pb : Nat} {Fa Fb : Nat → Prop} {La Lb La' : List (Int × Int)} (h : Two w wr pa pb Fa Fb La Lb) (ht : Tim wx pa Fa La') (hk : Kp Fa wr wx) : Two w wx pa pb Fa Fb La' Lb :=
  have hsz := h.kp.size
  ⟨ht, h.tb.kept hk (fun k hb ha => h.dj k ha hb), h.dj, h.ba, h.bb, h.kp.trans hk (fun _ _ h => h) (fun k hl hf => by have := h.ba k hf; omega)⟩

theorem cnt_rest {now : Int} {La Lb A R : List (Int × Int)} (hp : Lb.Perm La) (hs : Lb.Pairwise Ap) (he : La = A ++ R) (hA : ∀ q ∈ A, q.1 ≤ now) (hR : ∀ q ∈ R, now < q.1) : R.length = (restL now Lb).length := by
  rw [rest_len hs, hp.countP_eq, he, List.countP_append, List.countP_eq_zero.2 (fun q hq => by have := hA q hq; simp; omega), List.countP_eq_length.2 (fun q hq => by simpa using hR q hq)]
  omega
theorem due_pos {q : Int × Int} {T : List (Int × Int)} : 0 < (dueL q.1 (q :: T)).length := by
  unfold dueL
  rw [List.takeWhile_cons_of_pos (by simp)]
  simp
theorem due_split {now t : Int} {L : List (Int × Int)} (h : t ≤ now) : ∃ A, L = A ++ restL t L ∧ ∀ q ∈ A, q.1 ≤ now := by
  refine ⟨L.takeWhile (fun q => decide (q.1 ≤ t)), List.takeWhile_append_dropWhile.symm, fun q hq => ?_⟩
  have := List.all_eq_true.1 (List.all_takeWhile (p := fun q : Int × Int => decide (q.1 ≤ t)) (l := L)) q hq
  simp at this
  omega

end Go.Proofs.Ytpoahegccjgnjaa
