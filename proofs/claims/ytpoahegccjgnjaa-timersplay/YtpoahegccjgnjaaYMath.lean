/- Timers, without memory: what waits as container/heap keeps it, what up and down make of it, and the list in order that it stands for. Conditions: those that each theorem states. -/
import Derived.Test.YtpoahegccjgnjaaJB
namespace Go.Proofs.Ytpoahegccjgnjaa
open Go Go.RowKit
set_option linter.unusedVariables false
/-- A timer: its time, its number, its block. -/
structure Tm where
  till : Int
  id : Int
  b : Nat
/-- Which pair is ahead. -/
abbrev Ap (p q : Int × Int) : Prop := p.1 < q.1 ∨ p.1 = q.1 ∧ p.2 < q.2
def Tm.pr (x : Tm) : Int × Int := (x.till, x.id)
abbrev Ah (x y : Tm) : Prop := Ap x.pr y.pr
theorem Ap.asym {p q : Int × Int} (h : Ap p q) : ¬ Ap q p := by unfold Ap at *; omega
theorem Ap.irr (p : Int × Int) : ¬ Ap p p := by unfold Ap; omega
theorem Ap.trans {p q r : Int × Int} (h : Ap p q) (h' : Ap q r) : Ap p r := by unfold Ap at *; omega
theorem nAp_trans {p q r : Int × Int} (h : ¬ Ap p q) (h' : ¬ Ap q r) : ¬ Ap p r := by unfold Ap at *; omega
theorem Ap.tri {p q : Int × Int} (h : ¬ Ap p q) (h' : ¬ Ap q p) : p = q := by
  unfold Ap at *
  exact Prod.ext (by omega) (by omega)
theorem Ah.asym {x y : Tm} (h : Ah x y) : ¬ Ah y x := Ap.asym h
theorem nAh_trans {x y z : Tm} (h : ¬ Ah x y) (h' : ¬ Ah y z) : ¬ Ah x z := nAp_trans h h'
theorem Ah.irr (x : Tm) : ¬ Ah x x := Ap.irr _
def tm0 : Tm := ⟨0, 0, 0⟩
/-- Who waits at a place. -/
def ev (H : List Tm) (i : Nat) : Tm := H.getD i tm0
theorem ev_lt {H : List Tm} {i : Nat} (h : i < H.length) : ev H i = H[i] := by simp [ev, h]
/-- Two change places. -/
def swp (H : List Tm) (i j : Nat) : List Tm := (H.set i (ev H j)).set j (ev H i)
theorem swp_len (H : List Tm) (i j : Nat) : (swp H i j).length = H.length := by simp [swp]
theorem swp_perm {H : List Tm} {i j : Nat} (hi : i < H.length) (hj : j < H.length) : (swp H i j).Perm H := by
  unfold swp
  rw [ev_lt hi, ev_lt hj]
  exact List.set_set_perm hi hj
theorem ev_swp {H : List Tm} {i j : Nat} (hi : i < H.length) (hj : j < H.length) (k : Nat) : ev (swp H i j) k = if k = j then ev H i else if k = i then ev H j else ev H k := by
  unfold ev swp
  by_cases h1 : k = j
  · subst h1
    simp [hj, ev]
  · by_cases h2 : k = i
    · subst h2
      rw [if_neg h1, if_pos rfl]
      have : j ≠ k := fun e => h1 e.symm
      simp [this, hi, ev]
    · rw [if_neg h1, if_neg h2]
      have e1 : j ≠ k := fun e => h1 e.symm
      have e2 : i ≠ k := fun e => h2 e.symm
      simp [e1, e2]
/-- The first n are a heap. -/
def Hp (H : List Tm) (n : Nat) : Prop := ∀ k, 0 < k → k < n → ¬ Ah (ev H k) (ev H ((k - 1) / 2))
/-- They are, but for who is at j, who may belong further up. -/
def UpOk (H : List Tm) (n j : Nat) : Prop := (∀ k, 0 < k → k < n → k ≠ j → ¬ Ah (ev H k) (ev H ((k - 1) / 2))) ∧ ∀ c, 0 < c → c < n → (c - 1) / 2 = j → 0 < j → ¬ Ah (ev H c) (ev H ((j - 1) / 2))
/-- They are, but for who is at i. -/
def FixOk (H : List Tm) (n i : Nat) : Prop := (∀ k, 0 < k → k < n → k ≠ i → (k - 1) / 2 ≠ i → ¬ Ah (ev H k) (ev H ((k - 1) / 2))) ∧ ∀ c, 0 < c → c < n → (c - 1) / 2 = i → 0 < i → ¬ Ah (ev H c) (ev H ((i - 1) / 2))
theorem up_end {H : List Tm} {n j : Nat} (h : UpOk H n j) (he : j = 0 ∨ ¬ Ah (ev H j) (ev H ((j - 1) / 2))) : Hp H n := fun k h0 hk => by
  by_cases e : k = j
  · subst e
    rcases he with e | e
    · omega
    · exact e
  · exact h.1 k h0 hk e
theorem up_step {H : List Tm} {n i j : Nat} (h : UpOk H n j) (hn : n ≤ H.length) (hj : j < n) (h0 : 0 < j) (hi : (j - 1) / 2 = i) (ha : Ah (ev H j) (ev H i)) : UpOk (swp H i j) n i := by
  have hij : i < j := by omega
  have E := ev_swp (H := H) (i := i) (j := j) (by omega) (by omega)
  refine ⟨fun k k0 hk ki => ?_, fun c c0 hc ci i0 => ?_⟩
  · rw [E k, E ((k - 1) / 2)]
    by_cases k1 : k = j
    · rw [if_pos k1, if_neg (by omega), if_pos (by omega)]
      exact ha.asym
    · rw [if_neg k1, if_neg ki]
      by_cases p1 : (k - 1) / 2 = j
      · rw [if_pos p1]
        have := h.2 k k0 hk p1 h0
        rwa [hi] at this
      · rw [if_neg p1]
        by_cases p2 : (k - 1) / 2 = i
        · rw [if_pos p2]
          have q := h.1 k k0 hk k1
          rw [p2] at q
          exact nAh_trans q ha.asym
        · rw [if_neg p2]
          exact h.1 k k0 hk k1
  · rw [E c, E ((i - 1) / 2), if_neg (show ¬ (i - 1) / 2 = j by omega), if_neg (show ¬ (i - 1) / 2 = i by omega)]
    have q := h.1 i i0 (by omega) (by omega)
    by_cases c1 : c = j
    · rw [if_pos c1]
      exact q
    · rw [if_neg c1, if_neg (by omega)]
      have q2 := h.1 c c0 hc c1
      rw [ci] at q2
      exact nAh_trans q2 q
theorem down_stop {H : List Tm} {n i : Nat} (h : FixOk H n i) (hc : ∀ c, 0 < c → c < n → (c - 1) / 2 = i → ¬ Ah (ev H c) (ev H i)) : UpOk H n i :=
  ⟨fun k k0 hk ki => by
    by_cases p : (k - 1) / 2 = i
    · rw [p]; exact hc k k0 hk p
    · exact h.1 k k0 hk ki p, h.2⟩
theorem down_step {H : List Tm} {n i j : Nat} (h : FixOk H n i) (hn : n ≤ H.length) (hj : j < n) (h0 : 0 < j) (hi : (j - 1) / 2 = i) (ha : Ah (ev H j) (ev H i)) (hc : ∀ c, 0 < c → c < n → (c - 1) / 2 = i → ¬ Ah (ev H c) (ev H j)) :
    FixOk (swp H i j) n j ∧ ¬ Ah (ev (swp H i j) j) (ev (swp H i j) ((j - 1) / 2)) := by
  have hij : i < j := by omega
  have E := ev_swp (H := H) (i := i) (j := j) (by omega) (by omega)
  refine ⟨⟨fun k k0 hk kj pj => ?_, fun c c0 hc' cj j0 => ?_⟩, ?_⟩
  · rw [E k, E ((k - 1) / 2), if_neg kj, if_neg pj]
    by_cases k1 : k = i
    · rw [if_pos k1, if_neg (by omega)]
      subst k1
      exact h.2 j h0 hj hi k0
    · rw [if_neg k1]
      by_cases p : (k - 1) / 2 = i
      · rw [if_pos p]
        exact hc k k0 hk p
      · rw [if_neg p]
        exact h.1 k k0 hk k1 p
  · rw [E c, E ((j - 1) / 2), hi, if_neg (by omega), if_neg (by omega), if_neg (by omega), if_pos rfl]
    have := h.1 c c0 hc' (by omega) (by omega)
    rwa [cj] at this
  · rw [E j, E ((j - 1) / 2), if_pos rfl, hi, if_neg (by omega), if_pos rfl]
    exact ha.asym
theorem hp_min {H : List Tm} {n : Nat} (h : Hp H n) : ∀ k, k < n → ¬ Ah (ev H k) (ev H 0) := fun k => by
  induction k using Nat.strongRecOn with
  | _ k ih =>
    intro hk
    by_cases h0 : k = 0
    · subst h0
      exact Ah.irr _
    · exact nAh_trans (h k (by omega) hk) (ih ((k - 1) / 2) (by omega) (by omega))
theorem hp_fix {H : List Tm} {n i : Nat} (h : Hp H n) {H' : List Tm} (he : ∀ k, k ≠ i → ev H' k = ev H k) : FixOk H' n i :=
  ⟨fun k k0 hk ki pi => by rw [he k ki, he _ pi]; exact h k k0 hk, fun c c0 hc ci i0 => by
    rw [he c (by omega), he _ (by omega)]
    have q1 := h c c0 hc
    have q2 := h i i0 (by omega)
    rw [ci] at q1
    exact nAh_trans q1 q2⟩
theorem Hp.less {H : List Tm} {n m : Nat} (h : Hp H n) (hm : m ≤ n) : Hp H m := fun k k0 hk => h k k0 (by omega)
theorem Hp.congr {H H' : List Tm} {n : Nat} (h : Hp H n) (he : ∀ k, k < n → ev H' k = ev H k) : Hp H' n := fun k k0 hk => by
  rw [he k hk, he _ (by omega)]
  exact h k k0 hk
theorem ev_mem {H : List Tm} {i : Nat} (h : i < H.length) : ev H i ∈ H := by rw [ev_lt h]; exact List.getElem_mem h
theorem mem_ev {H : List Tm} {x : Tm} (h : x ∈ H) : ∃ i, i < H.length ∧ ev H i = x := by
  obtain ⟨i, hi, he⟩ := List.getElem_of_mem h
  exact ⟨i, hi, by rw [ev_lt hi]; exact he⟩
/-- The list in order that those who wait stand for. -/
structure Rep (H : List Tm) (L : List (Int × Int)) : Prop where
  perm : (H.map Tm.pr).Perm L
  sorted : L.Pairwise Ap
  ids : (H.map Tm.id).Nodup
theorem Rep.nil : Rep [] [] := ⟨.nil, .nil, .nil⟩
theorem Rep.len {H : List Tm} {L : List (Int × Int)} (h : Rep H L) : L.length = H.length := by simpa using h.perm.length_eq.symm
theorem Rep.of {H H' : List Tm} {L : List (Int × Int)} (h : Rep H L) (p : H'.Perm H) : Rep H' L :=
  ⟨(p.map _).trans h.perm, h.sorted, (p.map _).nodup_iff.2 h.ids⟩
theorem Rep.lids {H : List Tm} {L : List (Int × Int)} (h : Rep H L) : (L.map (·.2)).Nodup := by
  have e : (H.map Tm.id) = (H.map Tm.pr).map (·.2) := by simp [Tm.pr]
  have := h.ids
  rw [e] at this
  exact (h.perm.map _).nodup_iff.1 this
/-- Without a number. -/
def dropL (id : Int) (L : List (Int × Int)) : List (Int × Int) := L.filter (fun p => p.2 != id)
/-- With a pair that none is of the number of. -/
def insL (p : Int × Int) (L : List (Int × Int)) : List (Int × Int) := L.takeWhile (fun q => decide (Ap q p)) ++ p :: L.dropWhile (fun q => decide (Ap q p))
def setL (id till : Int) (L : List (Int × Int)) : List (Int × Int) := insL (till, id) (dropL id L)
theorem insL_perm (p : Int × Int) (L : List (Int × Int)) : (insL p L).Perm (p :: L) := by
  unfold insL
  refine List.perm_middle.trans ?_
  rw [List.takeWhile_append_dropWhile]
theorem insL_sorted {p : Int × Int} : ∀ {L : List (Int × Int)}, L.Pairwise Ap → (∀ q ∈ L, q ≠ p) → (insL p L).Pairwise Ap
  | [], _, _ => by simp [insL]
  | q :: L, h, hn => by
    have hq := List.pairwise_cons.1 h
    by_cases ha : Ap q p
    · have e : insL p (q :: L) = q :: insL p L := by simp [insL, ha]
      rw [e, List.pairwise_cons]
      refine ⟨fun r hr => ?_, insL_sorted hq.2 (fun r hr => hn r (by simp [hr]))⟩
      rcases List.mem_cons.1 ((insL_perm p L).mem_iff.1 hr) with rfl | hr
      · exact ha
      · exact hq.1 r hr
    · have e : insL p (q :: L) = p :: q :: L := by simp [insL, ha]
      rw [e, List.pairwise_cons]
      have hp : Ap p q := Decidable.byContradiction fun hh => hn q (by simp) (Ap.tri ha hh)
      refine ⟨fun r hr => ?_, h⟩
      rcases List.mem_cons.1 hr with rfl | hr
      · exact hp
      · exact hp.trans (hq.1 r hr)
theorem Rep.ins {H : List Tm} {L : List (Int × Int)} (h : Rep H L) (x : Tm) (hx : x.id ∉ H.map Tm.id) : Rep (x :: H) (insL x.pr L) := by
  refine ⟨?_, insL_sorted h.sorted (fun q hq e => ?_), ?_⟩
  · rw [List.map_cons]
    exact (h.perm.cons _).trans (insL_perm _ _).symm
  · subst e
    have := h.perm.mem_iff.2 hq
    obtain ⟨y, hy, e⟩ := List.mem_map.1 this
    exact hx (List.mem_map.2 ⟨y, hy, congrArg Prod.snd e⟩)
  · rw [List.map_cons, List.nodup_cons]
    exact ⟨hx, h.ids⟩
theorem dropL_none {id : Int} {L : List (Int × Int)} (h : id ∉ L.map (·.2)) : dropL id L = L := by
  unfold dropL
  rw [List.filter_eq_self]
  intro p hp
  simp only [bne_iff_ne, ne_eq]
  exact fun e => h (List.mem_map.2 ⟨p, hp, e⟩)
theorem Rep.noId {H : List Tm} {L : List (Int × Int)} (h : Rep H L) {id : Int} (hx : id ∉ H.map Tm.id) : id ∉ L.map (·.2) := fun hm => by
  obtain ⟨p, hp, e⟩ := List.mem_map.1 hm
  obtain ⟨y, hy, e2⟩ := List.mem_map.1 (h.perm.mem_iff.2 hp)
  exact hx (List.mem_map.2 ⟨y, hy, by rw [← e, ← e2]; rfl⟩)
theorem Rep.rem {H R : List Tm} {L : List (Int × Int)} {x : Tm} (h : Rep H L) (p : H.Perm (x :: R)) : Rep R (dropL x.id L) ∧ x.id ∉ R.map Tm.id := by
  have h' := h.of p.symm
  have hn := h'.ids
  rw [List.map_cons, List.nodup_cons] at hn
  have hr : ∀ q ∈ R.map Tm.pr, q.2 ≠ x.id := fun q hq e => by
    obtain ⟨y, hy, rfl⟩ := List.mem_map.1 hq
    exact hn.1 (List.mem_map.2 ⟨y, hy, e⟩)
  refine ⟨⟨?_, h.sorted.filter _, hn.2⟩, hn.1⟩
  have p2 := (h'.perm.filter (fun p => p.2 != x.id))
  rw [List.map_cons, List.filter_cons_of_neg (by simp [Tm.pr]), List.filter_eq_self.2 (fun q hq => by simpa using hr q hq)] at p2
  exact p2
theorem Rep.setNew {H : List Tm} {L : List (Int × Int)} (h : Rep H L) (x : Tm) (hx : x.id ∉ H.map Tm.id) : Rep (x :: H) (setL x.id x.till L) := by
  have := h.ins x hx
  unfold setL
  rw [dropL_none (h.noId hx)]
  exact this
theorem Rep.setOld {H R : List Tm} {L : List (Int × Int)} {x : Tm} (h : Rep H L) (p : H.Perm (x :: R)) (t : Int) : Rep ({ x with till := t } :: R) (setL x.id t L) :=
  (h.rem p).1.ins { x with till := t } (h.rem p).2
theorem Rep.first {H : List Tm} {L : List (Int × Int)} (h : Rep H L) (hp : Hp H H.length) (hn : 0 < H.length) : ∃ T, L = (ev H 0).pr :: T := by
  have hl := h.len
  match L, h, hl with
  | [], _, hl => simp at hl; omega
  | q :: T, h, _ =>
    refine ⟨T, ?_⟩
    congr 1
    obtain ⟨y, hy, e⟩ := List.mem_map.1 (h.perm.mem_iff.2 (List.mem_cons_self (a := q) (l := T)))
    obtain ⟨i, hi, he⟩ := mem_ev hy
    have h1 : ¬ Ap q (ev H 0).pr := by
      have := hp_min hp i hi
      rw [he] at this
      rw [← e]
      exact this
    have hm : (ev H 0).pr ∈ q :: T := h.perm.mem_iff.1 (List.mem_map.2 ⟨_, ev_mem hn, rfl⟩)
    rcases List.mem_cons.1 hm with hm | hm
    · exact hm.symm
    · exact absurd ((List.pairwise_cons.1 h.sorted).1 _ hm) h1
theorem dropL_head {q : Int × Int} {T : List (Int × Int)} (h : ((q :: T).map (·.2)).Nodup) : dropL q.2 (q :: T) = T := by
  rw [List.map_cons, List.nodup_cons] at h
  unfold dropL
  rw [List.filter_cons_of_neg (by simp)]
  exact dropL_none h.1
/-- What a number is set for. -/
def tillL (id : Int) : List (Int × Int) → Option Int
  | [] => none
  | p :: L => if p.2 = id then some p.1 else tillL id L
theorem tillL_some : ∀ {L : List (Int × Int)} {id t : Int}, (L.map (·.2)).Nodup → (t, id) ∈ L → tillL id L = some t
  | [], _, _, _, h => by simp at h
  | p :: L, id, t, hn, h => by
    rw [List.map_cons, List.nodup_cons] at hn
    unfold tillL
    rcases List.mem_cons.1 h with e | h
    · subst e
      simp
    · rw [if_neg (fun e => hn.1 (List.mem_map.2 ⟨_, h, e.symm⟩))]
      exact tillL_some hn.2 h
theorem tillL_none : ∀ {L : List (Int × Int)} {id : Int}, id ∉ L.map (·.2) → tillL id L = none
  | [], _, _ => rfl
  | p :: L, id, h => by
    unfold tillL
    rw [if_neg (fun e => h (by simp [e]))]
    exact tillL_none (fun hh => h (by simp [hh]))

end Go.Proofs.Ytpoahegccjgnjaa
