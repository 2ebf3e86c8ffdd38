/- Contracts, over the turned program: a device's Unsure: the sectors that aren't sure, in order. Conditions: those that each theorem states. -/
import Derived.Test.YtmnedhlgplkfhaaJD
import Derived.Test.YtmnedhlgplkfhaaJB
import Derived.Sort.OwnSortedInts
namespace Go.Proofs.Ytmnedhlgplkfhaa
open Go.RowKit
open Go.ChangeMaps (setBlock)
set_option linter.unusedVariables false

theorem Ow.ne_iter {α : Type} {f : α → Value} {e : TypeId} {w : World} {base : Nat} {v : Value} {l : List α} (h : Ow f e w base v l) {r m cl c0 : Nat} {seen : Array Nat} (hr : w.heap[r]? = some (.mapIter (some m) cl seen c0)) : v.ownBlock ≠ some r := by
  rcases h.2 with ⟨rfl, h0⟩ | ⟨g, cap, cur, rfl, hb, hg, _⟩
  · simp [Value.ownBlock]
  · intro e1
    have : g = r := by simpa [Value.ownBlock] using e1
    subst this
    rw [hr] at hg
    cases hg
/-- The sectors that aren't sure, in order. -/
def unsL (D : Dv) : List Nat := (List.range D.n).filter fun k => (D.u k).isSome
def unsI (D : Dv) : List Int := (unsL D).map fun k : Nat => (k : Int)
theorem unsL_lt (D : Dv) : ∀ k ∈ unsL D, k < D.n := fun k hk => by simpa using (List.mem_filter.1 hk).1
theorem unsL_le (D : Dv) : (unsL D).length ≤ D.n := by
  have := List.length_filter_le (fun k => (D.u k).isSome) (List.range D.n)
  unfold unsL
  simpa using this
theorem unsI_len (D : Dv) : (unsI D).length = (unsL D).length := by simp [unsI]
theorem unsI_sorted (D : Dv) : (unsI D).Pairwise (fun a b => a < b) := by
  unfold unsI unsL
  rw [List.pairwise_map]
  refine (List.Pairwise.filter _ (List.pairwise_lt_range (n := D.n))).imp ?_
  intro a b h
  omega
theorem len_le {l : List Int} {n : Nat} (hn : l.Nodup) (h : ∀ z ∈ l, 0 ≤ z ∧ z < n) : l.length ≤ n := by
  have hp : l.Perm (((List.range n).map fun k : Nat => (k : Int)).filter fun z => decide (z ∈ l)) := by
    rw [List.perm_ext_iff_of_nodup hn]
    · intro z
      rw [List.mem_filter]
      constructor
      · intro hz
        obtain ⟨h0, h1⟩ := h z hz
        exact ⟨List.mem_map.2 ⟨z.toNat, by simp; omega, by omega⟩, by simpa using hz⟩
      · intro hz
        simpa using hz.2
    · unfold List.Nodup
      refine List.Pairwise.filter _ ?_
      rw [List.pairwise_map]
      refine (List.nodup_range (n := n)).imp ?_
      intro a b hab he
      exact hab (by omega)
  rw [hp.length_eq]
  refine Nat.le_trans (List.length_filter_le _ _) ?_
  simp
theorem sort_eq {zs : List Int} {D : Dv} (hp : zs.Perm (unsI D)) : zs.mergeSort (fun x y => decide (x ≤ y)) = unsI D := by
  have h1 := List.pairwise_mergeSort (le := fun x y : Int => decide (x ≤ y)) (fun a b c h1 h2 => by simp at *; omega) (fun a b => by simp; omega) zs
  refine List.Perm.eq_of_pairwise (le := fun a b => a ≤ b) (fun a b _ _ h1 h2 => by omega) (h1.imp (fun h => by simpa using h)) ((unsI_sorted D).imp (fun h => by omega)) ((List.mergeSort_perm _ _).trans hp)

/-- The collecting under way. -/
def UnR (w : World) (p : Dp) (D : Dv) (r : Nat) (es : Array MapEntry) (cl : Nat) (wr : World) (v : Value) (seen : Array Nat) (c0 : Nat) (zs : List Int) : Prop :=
  wr.heap[r]? = some (.mapIter (some p.m) cl seen c0) ∧ cl ≤ c0 ∧ wr.heap[p.m]? = some (.map es cl) ∧ Kp none' w wr ∧ Ow (Value.int .i64) 3 wr w.heap.size v zs ∧ zs.Nodup ∧
    (∀ z : Int, z ∈ zs ↔ ∃ e ∈ es.toList, seen.contains e.born = true ∧ e.key = .int .i64 z)
theorem UnR.len {w : World} {p : Dp} {D : Dv} {r : Nat} {es : Array MapEntry} {cl : Nat} {wr : World} {v : Value} {seen : Array Nat} {c0 : Nat} {zs : List Int} (h : UnR w p D r es cl wr v seen c0 zs) (hM : Mp D.u es.toList cl) (h2 : ∀ i x, D.u i = some x → i < D.n ∧ x.length = 64) : zs.length ≤ D.n := by
  obtain ⟨_, _, _, _, _, hn, hz⟩ := h
  refine len_le hn (fun z hz' => ?_)
  obtain ⟨e, he, _, hk⟩ := (hz z).1 hz'
  obtain ⟨i, x, hu, hk', _⟩ := hM.e1 e he
  rw [hk] at hk'
  have := (Value.int.inj hk').2
  have := (h2 i x hu).1
  omega
theorem UnR.perm {w : World} {p : Dp} {D : Dv} {r : Nat} {es : Array MapEntry} {cl : Nat} {wr : World} {v : Value} {seen : Array Nat} {c0 : Nat} {zs : List Int} (h : UnR w p D r es cl wr v seen c0 zs) (hM : Mp D.u es.toList cl) (h2 : ∀ i x, D.u i = some x → i < D.n ∧ x.length = 64) (h0 : (leftOf es seen).size = 0) : zs.Perm (unsI D) := by
  obtain ⟨_, _, _, _, _, hn, hz⟩ := h
  have hall := all_seen es seen h0
  rw [List.perm_ext_iff_of_nodup hn ((unsI_sorted D).imp (fun h => by omega))]
  intro z
  rw [hz]
  unfold unsI unsL
  rw [List.mem_map]
  constructor
  · rintro ⟨e, he, _, hk⟩
    obtain ⟨i, x, hu, hk', _⟩ := hM.e1 e he
    rw [hk] at hk'
    have := (Value.int.inj hk').2
    exact ⟨i, List.mem_filter.2 ⟨by simpa using (h2 i x hu).1, by simp [hu]⟩, by omega⟩
  · rintro ⟨i, hi, rfl⟩
    obtain ⟨_, hi2⟩ := List.mem_filter.1 hi
    obtain ⟨x, hx⟩ := Option.isSome_iff_exists.1 (by simpa using hi2)
    obtain ⟨e, he, hk⟩ := hM.e2 i x hx
    exact ⟨e, he, hall e he, hk⟩
theorem UnR.step {w : World} {p : Dp} {D : Dv} {r : Nat} {es : Array MapEntry} {cl : Nat} {wr : World} {v : Value} {seen : Array Nat} {c0 : Nat} {zs : List Int} (h : UnR w p D r es cl wr v seen c0 zs) (hM : Mp D.u es.toList cl) {e : MapEntry} {i : Nat} {w3 : World} {v' : Value}
    (he : e ∈ es.toList) (hns : seen.contains e.born = false) (hk : e.key = .int .i64 (i : Int)) (hr : w3.heap[r]? = some (.mapIter (some p.m) cl (seen.push e.born) cl)) (hm : w3.heap[p.m]? = some (.map es cl)) (hK : Kp none' w w3) (ho : Ow (Value.int .i64) 3 w3 w.heap.size v' (zs ++ [(i : Int)])) :
    UnR w p D r es cl w3 v' (seen.push e.born) cl (zs ++ [(i : Int)]) := by
  obtain ⟨_, _, _, _, _, hn, hz⟩ := h
  refine ⟨hr, Nat.le_refl _, hm, hK, ho, ?_, fun z => ?_⟩
  · rw [List.nodup_append]
    refine ⟨hn, by simp, fun a ha b hb => ?_⟩
    have : b = (i : Int) := by simpa using hb
    subst this
    rintro rfl
    obtain ⟨e', he', hs', hk'⟩ := (hz _).1 ha
    have : e' = e := entry_eq_of_key hM.e3 he' he (by rw [hk', hk])
    subst this
    rw [hns] at hs'
    cases hs'
  · rw [List.mem_append, hz]
    constructor
    · rintro (⟨e', he', hs', hk'⟩ | hb)
      · exact ⟨e', he', by rw [contains_push, hs']; rfl, hk'⟩
      · have : z = (i : Int) := by simpa using hb
        subst this
        exact ⟨e, he, by rw [contains_push]; simp, hk⟩
    · rintro ⟨e', he', hs', hk'⟩
      rw [contains_push] at hs'
      cases hb : seen.contains e'.born
      · rw [hb, Bool.false_or] at hs'
        have : e' = e := born_inj hM.e5 he' he (by simpa using hs')
        subst this
        rw [hk] at hk'
        exact .inr (by have := (Value.int.inj hk').2; simp [this])
      · exact .inl ⟨e', he', hb, hk'⟩

end Go.Proofs.Ytmnedhlgplkfhaa
