/- Nodes of a tree: what is split is joined again, may be, and fits: plain mathematics, nothing of the program. Conditions: those that each theorem states. -/
import Derived.Test.YtponhibiomcidaaDoorNPure
namespace Go.Proofs.YtponhibiomcidaaDoor
set_option linter.unusedVariables false

theorem ordN_sub {l m : List ByteArray} (h : ordN l = true) (hs : m.Sublist l) : ordN m = true := by
  unfold ordN
  rw [Bool.and_eq_true]
  refine ⟨List.all_eq_true.2 (fun k hk => ?_), pairwise_chain _ ((chain_pairwise _ (ordN_chain h)).sublist hs)⟩
  have := ordN_mem h k (hs.subset hk)
  exact decide_eq_true this
theorem right_of_leaf {l : List Pr} (h1 : ∀ p ∈ l, p.v.size ≤ 40) (h2 : ordN (l.map Pr.k) = true) : (⟨true, l, [], []⟩ : Nd).right = true := by
  unfold Nd.right
  rw [if_pos rfl]
  simp only [Bool.and_eq_true, List.all_eq_true, decide_eq_true_eq]
  exact ⟨h1, ⟨rfl, rfl⟩, h2⟩
theorem right_of_inner {l : List ByteArray} {d : List Int} (h1 : ∀ z ∈ d, 1 ≤ z ∧ z ≤ 65535) (h2 : d.length = l.length + 1) (h3 : ordN l = true) : (⟨false, [], l, d⟩ : Nd).right = true := by
  unfold Nd.right
  simp only [Bool.false_eq_true, if_false, Bool.and_eq_true, List.all_eq_true, decide_eq_true_eq, okD]
  exact ⟨h1, ⟨rfl, h2⟩, h3⟩
/-- Where a leaf is split. -/
theorem at_leaf {n : Nd} (hl : n.leaf = true) (h2 : 2 ≤ n.ps.length) : 1 ≤ n.at_ ∧ n.at_ < n.ps.length ∧ (n.at_ + 1 = n.ps.length ∨ n.size - 2 ≤ 2 * ((n.ps.take n.at_).map Pr.size).sum) ∧ (n.at_ = 1 ∨ 2 * ((n.ps.take (n.at_ - 1)).map Pr.size).sum < n.size - 2) := by
  obtain ⟨j, e, h3, h4, h5, h6⟩ := splG_spec (fun j => (n.ps.getD j ⟨⟨#[]⟩, ⟨#[]⟩⟩).size) (n.size - 2) (n.ps.length - 1) n.ps.length 1 (n.ps.getD 0 ⟨⟨#[]⟩, ⟨#[]⟩⟩).size (by simp [sumTo]) (Nat.le_refl _) (by omega) (.inl rfl)
  have ha : n.at_ = j := by unfold Nd.at_; rw [if_pos hl]; exact e
  rw [ha]
  rw [sumTo_list Pr.size _ n.ps j (by omega)] at h5
  rw [sumTo_list Pr.size _ n.ps (j - 1) (by omega)] at h6
  exact ⟨by omega, by omega, by omega, h6⟩
theorem at_inner {n : Nd} (hl : n.leaf = false) (h3 : 3 ≤ n.ks.length) : 1 ≤ n.at_ ∧ n.at_ + 1 < n.ks.length ∧ (n.at_ + 2 = n.ks.length ∨ n.size - 4 ≤ 2 * ((n.ks.take n.at_).map kSize).sum) ∧ (n.at_ = 1 ∨ 2 * ((n.ks.take (n.at_ - 1)).map kSize).sum < n.size - 4) := by
  obtain ⟨j, e, h3', h4, h5, h6⟩ := splG_spec (fun j => kSize (n.ks.getD j ⟨#[]⟩)) (n.size - 4) (n.ks.length - 2) n.ks.length 1 (kSize (n.ks.getD 0 ⟨#[]⟩)) (by simp [sumTo]) (Nat.le_refl _) (by omega) (.inl rfl)
  have ha : n.at_ = j := by unfold Nd.at_; rw [hl]; exact e
  rw [ha]
  rw [sumTo_list kSize _ n.ks j (by omega)] at h5
  rw [sumTo_list kSize _ n.ks (j - 1) (by omega)] at h6
  exact ⟨by omega, by omega, by omega, h6⟩
theorem sum_take_succ {α : Type} (f : α → Nat) (l : List α) (i M : Nat) (hi : i < l.length) (hM : ∀ x ∈ l, f x ≤ M) : ((l.take (i + 1)).map f).sum ≤ ((l.take i).map f).sum + M := by
  rw [List.take_succ_eq_append_getElem hi, List.map_append, List.sum_append]
  have := hM _ (List.getElem_mem hi)
  simp
  exact this
theorem sum_take_drop {α : Type} (f : α → Nat) (l : List α) (i : Nat) : ((l.take i).map f).sum + ((l.drop i).map f).sum = (l.map f).sum := by
  rw [← List.sum_append, ← List.map_append, List.take_append_drop]
theorem sum_one {α : Type} (f : α → Nat) (l : List α) (M : Nat) (h : l.length ≤ 1) (hM : ∀ x ∈ l, f x ≤ M) : (l.map f).sum ≤ M := by
  match l, h with
  | [], _ => exact Nat.zero_le _
  | [x], _ => simp; exact hM x List.mem_cons_self
/-- What a split leaf comes to. -/
theorem split_leaf {n : Nd} (hr : n.right = true) (hl : n.leaf = true) (h2 : 2 ≤ n.ps.length) : n.fst.join n.snd n.mid = n ∧ n.fst.right = true ∧ n.snd.right = true ∧ 1 ≤ n.mid.size ∧ (∀ p ∈ n.fst.ps, lessB p.k n.mid = true) ∧ (∀ p ∈ n.snd.ps, lessB p.k n.mid = false) ∧ (n.size ≤ 330 → n.fst.size ≤ 256 ∧ n.snd.size ≤ 256) := by
  obtain ⟨a1, a2, a3, a4⟩ := at_leaf hl h2
  obtain ⟨r1, r2, r3, r4⟩ := right_leaf hr hl
  have hps := right_ps hr hl
  have hasc := right_asc hr
  have hp : n.parts = true := by unfold Nd.parts; rw [if_pos hl]; exact decide_eq_true h2
  have ef : n.fst = ⟨true, n.ps.take n.at_, [], []⟩ := by unfold Nd.fst; rw [if_pos hp, if_pos hl]
  have es : n.snd = ⟨true, n.ps.drop n.at_, [], []⟩ := by unfold Nd.snd; rw [if_pos hp, if_pos hl]
  have em : n.mid = n.ps[n.at_].k := by
    unfold Nd.mid
    rw [if_pos hp, if_pos hl, List.getD_eq_getElem?_getD, List.getElem?_eq_getElem a2]
    rfl
  have hd : n.ps.drop n.at_ = n.ps[n.at_] :: n.ps.drop (n.at_ + 1) := List.drop_eq_getElem_cons a2
  have hap := hasc
  unfold Asc at hap
  rw [← List.take_append_drop n.at_ n.ps] at hap
  obtain ⟨b1, b2, b3⟩ := List.pairwise_append.1 hap
  refine ⟨?_, ?_, ?_, ?_, ?_, ?_, fun hs => ?_⟩
  · rw [ef, es]
    unfold Nd.join
    rw [if_pos rfl]
    show (⟨true, n.ps.take n.at_ ++ n.ps.drop n.at_, [], []⟩ : Nd) = n
    rw [List.take_append_drop]
    cases n
    dsimp only at *
    subst r2 r3 hl
    rfl
  · rw [ef]
    exact right_of_leaf (fun p hp => r1 p (List.mem_of_mem_take hp)) (ordN_sub r4 ((List.take_sublist _ _).map _))
  · rw [es]
    exact right_of_leaf (fun p hp => r1 p (List.mem_of_mem_drop hp)) (ordN_sub r4 ((List.drop_sublist _ _).map _))
  · rw [em]
    exact (hps _ (List.getElem_mem a2)).1.1
  · rw [ef, em]
    intro p hp
    exact b3 p hp _ (by rw [hd]; exact List.mem_cons_self)
  · rw [es, em]
    intro p hp
    rw [hd] at b2
    have hp' : p ∈ n.ps.drop n.at_ := hp
    rw [hd] at hp'
    rcases List.mem_cons.1 hp' with e | e
    · rw [e]; exact lessB_irrefl _
    · exact lessB_asym ((List.pairwise_cons.1 b2).1 p e)
  · have hn : n.size = 2 + (n.ps.map Pr.size).sum := by unfold Nd.size; rw [if_pos hl]
    have hM : ∀ p ∈ n.ps, p.size ≤ 74 := fun p hp => by have := hps p hp; unfold Pr.size; omega
    have hsum := sum_take_drop Pr.size n.ps n.at_
    have e1 : n.fst.size = 2 + ((n.ps.take n.at_).map Pr.size).sum := by rw [ef]; rfl
    have e2 : n.snd.size = 2 + ((n.ps.drop n.at_).map Pr.size).sum := by rw [es]; rfl
    rw [e1, e2]
    constructor
    · have hst := sum_take_succ Pr.size n.ps (n.at_ - 1) 74 (by omega) hM
      rw [Nat.sub_add_cancel a1] at hst
      rcases a4 with e | e
      · have := sum_one Pr.size (n.ps.take n.at_) 74 (by rw [List.length_take]; omega) (fun p hp => hM p (List.mem_of_mem_take hp))
        omega
      · omega
    · rcases a3 with e | e
      · have := sum_one Pr.size (n.ps.drop n.at_) 74 (by rw [List.length_drop]; omega) (fun p hp => hM p (List.mem_of_mem_drop hp))
        omega
      · omega
/-- What a split inner node comes to. -/
theorem split_inner {n : Nd} (hr : n.right = true) (hl : n.leaf = false) (h3 : 3 ≤ n.ks.length) : n.fst.join n.snd n.mid = n ∧ n.fst.right = true ∧ n.snd.right = true ∧ 1 ≤ n.mid.size ∧ n.fst.ps = [] ∧ n.snd.ps = [] ∧ (n.size ≤ 330 → n.fst.size ≤ 256 ∧ n.snd.size ≤ 256) := by
  obtain ⟨a1, a2, a3, a4⟩ := at_inner hl h3
  obtain ⟨r1, r2, r3, r4⟩ := right_inner hr hl
  have hks := ordN_mem r4
  have ai : n.at_ < n.ks.length := by omega
  have hp : n.parts = true := by unfold Nd.parts; rw [hl]; exact decide_eq_true ⟨h3, r3⟩
  have ef : n.fst = ⟨false, [], n.ks.take n.at_, n.kd.take (n.at_ + 1)⟩ := by unfold Nd.fst; rw [if_pos hp, hl]; rfl
  have es : n.snd = ⟨false, [], n.ks.drop (n.at_ + 1), n.kd.drop (n.at_ + 1)⟩ := by unfold Nd.snd; rw [if_pos hp, hl]; rfl
  have em : n.mid = n.ks[n.at_] := by
    unfold Nd.mid
    rw [if_pos hp, hl]
    show n.ks.getD n.at_ ⟨#[]⟩ = _
    rw [List.getD_eq_getElem?_getD, List.getElem?_eq_getElem ai]
    rfl
  have hd : n.ks.drop n.at_ = n.ks[n.at_] :: n.ks.drop (n.at_ + 1) := List.drop_eq_getElem_cons ai
  refine ⟨?_, ?_, ?_, ?_, by rw [ef], by rw [es], fun hs => ?_⟩
  · rw [ef, es, em]
    unfold Nd.join
    show (⟨false, [], n.ks.take n.at_ ++ [n.ks[n.at_]] ++ n.ks.drop (n.at_ + 1), n.kd.take (n.at_ + 1) ++ n.kd.drop (n.at_ + 1)⟩ : Nd) = n
    rw [List.take_append_drop, List.append_assoc]
    show (⟨false, [], n.ks.take n.at_ ++ (n.ks[n.at_] :: n.ks.drop (n.at_ + 1)), n.kd⟩ : Nd) = n
    rw [← hd, List.take_append_drop]
    cases n
    dsimp only at *
    subst r2 hl
    rfl
  · rw [ef]
    exact right_of_inner (fun z hz => r1 z (List.mem_of_mem_take hz)) (by rw [List.length_take, List.length_take]; omega) (ordN_sub r4 (List.take_sublist _ _))
  · rw [es]
    exact right_of_inner (fun z hz => r1 z (List.mem_of_mem_drop hz)) (by rw [List.length_drop, List.length_drop]; omega) (ordN_sub r4 (List.drop_sublist _ _))
  · rw [em]
    exact (hks _ (List.getElem_mem ai)).1
  · have hn : n.size = 4 + (n.ks.map kSize).sum := by unfold Nd.size; rw [hl]; rfl
    have hM : ∀ k ∈ n.ks, kSize k ≤ 35 := fun k hk => by have := hks k hk; unfold kSize; omega
    have hsum := sum_take_drop kSize n.ks n.at_
    have e1 : n.fst.size = 4 + ((n.ks.take n.at_).map kSize).sum := by rw [ef]; rfl
    have e2 : n.snd.size = 4 + ((n.ks.drop (n.at_ + 1)).map kSize).sum := by rw [es]; rfl
    have e3 : ((n.ks.drop n.at_).map kSize).sum = kSize n.ks[n.at_] + ((n.ks.drop (n.at_ + 1)).map kSize).sum := by rw [hd, List.map_cons, List.sum_cons]
    rw [e1, e2]
    constructor
    · have hst := sum_take_succ kSize n.ks (n.at_ - 1) 35 (by omega) hM
      rw [Nat.sub_add_cancel a1] at hst
      rcases a4 with e | e
      · have := sum_one kSize (n.ks.take n.at_) 35 (by rw [List.length_take]; omega) (fun p hp => hM p (List.mem_of_mem_take hp))
        omega
      · omega
    · rcases a3 with e | e
      · have := sum_one kSize (n.ks.drop (n.at_ + 1)) 35 (by rw [List.length_drop]; omega) (fun p hp => hM p (List.mem_of_mem_drop hp))
        omega
      · omega
/-- What isn't split stays. -/
theorem split_none {n : Nd} (h : n.parts = false) : n.fst = n ∧ n.snd = ⟨false, [], [], []⟩ ∧ n.mid = ⟨#[]⟩ := by
  unfold Nd.fst Nd.snd Nd.mid
  rw [h]
  exact ⟨rfl, rfl, rfl⟩

end Go.Proofs.YtponhibiomcidaaDoor
