/- Contracts, over the turned program: a device's Unsure: the sectors that aren't sure, in order. Conditions: those that each theorem states. -/
import Derived.Test.YtmnedhlgplkfhaaGreatJD
import Derived.Test.YtmnedhlgplkfhaaGreatDSort
import Derived.Test.YtmnedhlgplkfhaaGreatJB
import Derived.Sort.OwnSortedInts
namespace Go.Proofs.YtmnedhlgplkfhaaGreat
open Go.RowKit
open Go.ChangeMaps (setBlock)
set_option linter.unusedVariables false

theorem Ow.ne_iter {α : Type} {f : α → Value} {e : TypeId} {w : World} {base : Nat} {v : Value} {l : List α} (h : Ow f e w base v l) {r m cl c0 : Nat} {seen : Array Nat} (hr : w.heap[r]? = some (.mapIter (some m) cl seen c0)) : v.ownBlock ≠ some r := by
  rcases h.2 with ⟨rfl, h0⟩ | ⟨g, cap, cur, rfl, hb, hg, _⟩
  · simp [Value.ownBlock]
  · intro e1
    have : g = r := by simpa [Value.ownBlock] using e1
    subst this
    rw [hr] at hg
    cases hg
/-- The sectors that aren't sure, in order. -/
def unsL (D : Dv) : List Nat := (List.range D.n).filter fun k => (D.u k).isSome
def unsI (D : Dv) : List Int := (unsL D).map fun k : Nat => (k : Int)
theorem unsL_lt (D : Dv) : ∀ k ∈ unsL D, k < D.n := fun k hk => by simpa using (List.mem_filter.1 hk).1
theorem unsL_le (D : Dv) : (unsL D).length ≤ D.n := by
  have := List.length_filter_le (fun k => (D.u k).isSome) (List.range D.n)
  unfold unsL
  simpa using this
theorem unsI_len (D : Dv) : (unsI D).length = (unsL D).length := by simp [unsI]
theorem unsI_sorted (D : Dv) : (unsI D).Pairwise (fun a b => a < b) := by
  unfold unsI unsL
  rw [List.pairwise_map]
  refine (List.Pairwise.filter _ (List.pairwise_lt_range (n := D.n))).imp ?_
  intro a b h
  omega
theorem len_le {l : List Int} {n : Nat} (hn : l.Nodup) (h : ∀ z ∈ l, 0 ≤ z ∧ z < n) : l.length ≤ n := by
  have hp : l.Perm (((List.range n).map fun k : Nat => (k : Int)).filter fun z => decide (z ∈ l)) := by
    rw [List.perm_ext_iff_of_nodup hn]
    · intro z
      rw [List.mem_filter]
      constructor
      · intro hz
        obtain ⟨h0, h1⟩ := h z hz
        exact ⟨List.mem_map.2 ⟨z.toNat, by simp; omega, by omega⟩, by simpa using hz⟩
      · intro hz
        simpa using hz.2
    · unfold List.Nodup
      refine List.Pairwise.filter _ ?_
      rw [List.pairwise_map]
      refine (List.nodup_range (n := n)).imp ?_
      intro a b hab he
      exact hab (by omega)
  rw [hp.length_eq]
  refine Nat.le_trans (List.length_filter_le _ _) ?_
  simp
theorem sort_eq {zs : List Int} {D : Dv} (hp : zs.Perm (unsI D)) : zs.mergeSort (fun x y => decide (x ≤ y)) = unsI D := by
  have h1 := List.pairwise_mergeSort (le := fun x y : Int => decide (x ≤ y)) (fun a b c h1 h2 => by simp at *; omega) (fun a b => by simp; omega) zs
  refine List.Perm.eq_of_pairwise (le := fun a b => a ≤ b) (fun a b _ _ h1 h2 => by omega) (h1.imp (fun h => by simpa using h)) ((unsI_sorted D).imp (fun h => by omega)) ((List.mergeSort_perm _ _).trans hp)

/-- The collecting under way. -/
def UnR (w : World) (p : Dp) (D : Dv) (r : Nat) (es : Array MapEntry) (cl : Nat) (wr : World) (v : Value) (seen : Array Nat) (c0 : Nat) (zs : List Int) : Prop :=
  wr.heap[r]? = some (.mapIter (some p.m) cl seen c0) ∧ cl ≤ c0 ∧ wr.heap[p.m]? = some (.map es cl) ∧ Kp none' w wr ∧ Ow (Value.int .i64) 3 wr w.heap.size v zs ∧ zs.Nodup ∧
    (∀ z : Int, z ∈ zs ↔ ∃ e ∈ es.toList, seen.contains e.born = true ∧ e.key = .int .i64 z)
theorem UnR.len {w : World} {p : Dp} {D : Dv} {r : Nat} {es : Array MapEntry} {cl : Nat} {wr : World} {v : Value} {seen : Array Nat} {c0 : Nat} {zs : List Int} (h : UnR w p D r es cl wr v seen c0 zs) (hM : Mp D.u es.toList cl) (h2 : ∀ i x, D.u i = some x → i < D.n ∧ x.length = 64) : zs.length ≤ D.n := by
  obtain ⟨_, _, _, _, _, hn, hz⟩ := h
  refine len_le hn (fun z hz' => ?_)
  obtain ⟨e, he, _, hk⟩ := (hz z).1 hz'
  obtain ⟨i, x, hu, hk', _⟩ := hM.e1 e he
  rw [hk] at hk'
  have := (Value.int.inj hk').2
  have := (h2 i x hu).1
  omega
theorem UnR.perm {w : World} {p : Dp} {D : Dv} {r : Nat} {es : Array MapEntry} {cl : Nat} {wr : World} {v : Value} {seen : Array Nat} {c0 : Nat} {zs : List Int} (h : UnR w p D r es cl wr v seen c0 zs) (hM : Mp D.u es.toList cl) (h2 : ∀ i x, D.u i = some x → i < D.n ∧ x.length = 64) (h0 : (leftOf es seen).size = 0) : zs.Perm (unsI D) := by
  obtain ⟨_, _, _, _, _, hn, hz⟩ := h
  have hall := all_seen es seen h0
  rw [List.perm_ext_iff_of_nodup hn ((unsI_sorted D).imp (fun h => by omega))]
  intro z
  rw [hz]
  unfold unsI unsL
  rw [List.mem_map]
  constructor
  · rintro ⟨e, he, _, hk⟩
    obtain ⟨i, x, hu, hk', _⟩ := hM.e1 e he
    rw [hk] at hk'
    have := (Value.int.inj hk').2
    exact ⟨i, List.mem_filter.2 ⟨by simpa using (h2 i x hu).1, by simp [hu]⟩, by omega⟩
  · rintro ⟨i, hi, rfl⟩
    obtain ⟨_, hi2⟩ := List.mem_filter.1 hi
    obtain ⟨x, hx⟩ := Option.isSome_iff_exists.1 (by simpa using hi2)
    obtain ⟨e, he, hk⟩ := hM.e2 i x hx
    exact ⟨e, he, hall e he, hk⟩
theorem UnR.step {w : World} {p : Dp} {D : Dv} {r : Nat} {es : Array MapEntry} {cl : Nat} {wr : World} {v : Value} {seen : Array Nat} {c0 : Nat} {zs : List Int} (h : UnR w p D r es cl wr v seen c0 zs) (hM : Mp D.u es.toList cl) {e : MapEntry} {i : Nat} {w3 : World} {v' : Value}
    (he : e ∈ es.toList) (hns : seen.contains e.born = false) (hk : e.key = .int .i64 (i : Int)) (hr : w3.heap[r]? = some (.mapIter (some p.m) cl (seen.push e.born) cl)) (hm : w3.heap[p.m]? = some (.map es cl)) (hK : Kp none' w w3) (ho : Ow (Value.int .i64) 3 w3 w.heap.size v' (zs ++ [(i : Int)])) :
    UnR w p D r es cl w3 v' (seen.push e.born) cl (zs ++ [(i : Int)]) := by
  obtain ⟨_, _, _, _, _, hn, hz⟩ := h
  refine ⟨hr, Nat.le_refl _, hm, hK, ho, ?_, fun z => ?_⟩
  · rw [List.nodup_append]
    refine ⟨hn, by simp, fun a ha b hb => ?_⟩
    have : b = (i : Int) := by simpa using hb
    subst this
    rintro rfl
    obtain ⟨e', he', hs', hk'⟩ := (hz _).1 ha
    have : e' = e := entry_eq_of_key hM.e3 he' he (by rw [hk', hk])
    subst this
    rw [hns] at hs'
    cases hs'
  · rw [List.mem_append, hz]
    constructor
    · rintro (⟨e', he', hs', hk'⟩ | hb)
      · exact ⟨e', he', by rw [contains_push, hs']; rfl, hk'⟩
      · have : z = (i : Int) := by simpa using hb
        subst this
        exact ⟨e, he, by rw [contains_push]; simp, hk⟩
    · rintro ⟨e', he', hs', hk'⟩
      rw [contains_push] at hs'
      cases hb : seen.contains e'.born
      · rw [hb, Bool.false_or] at hs'
        have : e' = e := born_inj hM.e5 he' he (by simpa using hs')
        subst this
        rw [hk] at hk'
        exact .inr (by have := (Value.int.inj hk').2; simp [this])
      · exact .inl ⟨e', he', hb, hk'⟩

theorem sort_own (zs : List Int) (v : Value) (base : Nat) (D : Dv) (w : World) (h : Ow (Value.int .i64) 3 w base v zs) (hl : zs.length ≤ 4096) (hp : zs.Perm (unsI D)) :
    Calls Tryz.prog 132 #[v] w fun e w' => e = .returned (.tuple #[]) ∧ Ow (Value.int .i64) 3 w' base v (unsI D) ∧ Kp (fun k => v.ownBlock = some k) w w' := by
  have hlen := hp.length_eq
  rcases h.2 with ⟨rfl, h0⟩ | ⟨g, cap, cur, rfl, hb, hg, h1, h2, h3, h4⟩
  · have hz : zs = [] := List.eq_nil_of_length_eq_zero h0
    subst hz
    have hu : unsI D = [] := List.eq_nil_of_length_eq_zero (by simpa using hlen.symm)
    refine (sort_none none 0 w).mono ?_
    rintro e w' ⟨rfl, rfl⟩
    rw [hu]
    exact ⟨rfl, Ow.nil _ _ _ _, Kp.refl _ _⟩
  · refine (sort_ints g 0 cap zs w (holds_of_blockI hg (by simpa using h4)) (Array.getElem?_eq_some_iff.1 hg).1 (by omega)).mono ?_
    rintro e w' ⟨rfl, n, os, rfl⟩
    rw [sort_eq hp]
    refine ⟨rfl, ?_, Kp.ofGrown (grownBy_sortedI _) (fun k hk _ => by cases hk; rfl)⟩
    have := ownsRow_sortedI (w := w) (base := base) (g := g) (cap := cap) (n := n) (e := 3) (os := os) (ss := zs) (ts := unsI D) hlen.symm hb hg h1 h2 h3
    unfold Ow
    rw [← hlen]
    exact this

set_option maxHeartbeats 400000 in
theorem unsure_nil (w : World) : Calls Tryz.prog 117 #[.pointer none] w fun e w' => e = .returned (.slice none 0 0) ∧ w' = w := by
  go_enter Tryz.func117, Tryz.ntmps117
  go_wp2
  go_ret
  exact ⟨rfl, rfl⟩

set_option maxRecDepth 100000 in
set_option maxHeartbeats 800000 in
theorem unsure_any (p : Dp) (D : Dv) (w : World) (hD : Dev w p D) :
    Calls Tryz.prog 117 #[.pointer (some ⟨p.d, 0, none⟩)] w fun e w' => ∃ v, e = .returned v ∧ Ow (Value.int .i64) 3 w' w.heap.size v (unsI D) ∧ Kp none' w w' := by
  obtain ⟨es, cl, hm, hM⟩ := hD.mp
  have h1 := hD.c1
  have hrr := run_range_map (P := Tryz.prog) w 110 _ _ p.m es cl Tryz.underlying110 hm
  have hka := Kp.alloc none' w (.mapIter (some p.m) cl #[] cl)
  have hr0 : (w.alloc (.mapIter (some p.m) cl #[] cl)).heap[w.heap.size]? = some (.mapIter (some p.m) cl #[] cl) := heap_alloc_new w _
  have S0 : UnR w p D w.heap.size es cl (w.alloc (.mapIter (some p.m) cl #[] cl)) (.slice none 0 0) #[] cl [] :=
    ⟨hr0, Nat.le_refl _, by rw [hka.block _ hD.lm (fun h => h)]; exact hm, hka, Ow.nil _ _ _ _, by simp, fun z => by simp⟩
  have hrm : p.m ≠ w.heap.size := Nat.ne_of_lt hD.lm
  obtain ⟨w2, H2⟩ : ∃ w2, Hid (w.alloc (.mapIter (some p.m) cl #[] cl) = w2) := ⟨_, rfl⟩
  rw [H2.out] at S0 hrr
  obtain ⟨i0, hi, hz0, hz1, hz2⟩ := info_parts infoI
  obtain ⟨r, HR⟩ : ∃ r, Hid (w.heap.size = r) := ⟨_, rfl⟩
  rw [HR.out] at hrr hrm S0
  have hml := hD.lm
  have h4 := hD.n4
  have hl2 := hD.l2
  clear hm hka hr0
  go_enter Tryz.func117, Tryz.ntmps117
  go_wp2_with (at_range; refine wpList_range_at rfl (.tmp 10) 110 rfl _ rfl hrr ?_)
  go_frame
  clear hrr h1
  go_loopw [3] (fun v wr => ∃ seen c0 zs, UnR w p D r es cl wr v seen c0 zs) (fun _ wr => itLeft wr r es)
  case atStart => exact ⟨_, _, _, S0⟩
  case round =>
    obtain ⟨seen, c0, zs, hS⟩ := hrel
    clear S0
    go_upto_region 5 with fail
    refine wp_region_lit ?_
    refine wpList_next_it rfl (.tmp 11) rfl r p.m cl c0 seen es D.u rfl hS.1 hS.2.2.1 hM hS.2.1 ?_ ?_
    · intro h0
      have hp := hS.perm hM hl2 h0
      have hlen := hS.len hM hl2
      obtain ⟨_, _, _, hKr, hO, _, _⟩ := hS
      clear h0
      go_frame
      go_upto_region 8 with fail
      go_wp2_with (go_at_call 132; refine (sort_own zs u3 w.heap.size D _ hO (by omega) hp).mono ?_; rintro e w' ⟨rfl, hO', hk'⟩)
      go_ret
      exact ⟨_, rfl, hO', hKr.trans hk' (fun _ _ h => h) (fun k hk h => absurd hk (by have := (hO.lt k h).1; omega))⟩
    · intro e i x w3 he hns hu hk hK3 hsz hr3 hen hlt
      go_frame
      go_upto_region 7 with fail
      have hlen := hS.len hM hl2
      have HS : Hid (UnR w p D r es cl wr u3 seen c0 zs) := hS
      obtain ⟨hr, _, hm, hKr, hO, _, _⟩ := hS
      have hne := hO.ne_iter hr
      have hml' : p.m < wr.heap.size := Nat.lt_of_lt_of_le hml hKr.size
      have hm3 : w3.heap[p.m]? = some (.map es cl) := by rw [hK3.block _ hml' hrm]; exact hm
      have hK3' : Kp none' w w3 := hKr.trans hK3 (fun _ _ h => h) (fun k hk h => absurd hk (by have := HR.out; unfold only at h; omega))
      have hO3 : Ow (Value.int .i64) 3 w3 w.heap.size u3 zs := hO.kept hK3 (fun k hk h => hne (by unfold only at h; rw [← h]; exact hk))
      have HM : Hid (Mp D.u es.toList cl) := hM
      have HE : Hid (e ∈ es.toList ∧ seen.contains e.born = false ∧ e.key = .int .i64 (i : Int)) := ⟨he, hns, hk⟩
      have HL : Hid (itLeft wr r es = (leftOf es seen).size) := itLeft_eq es hr
      have HLt : Hid ((leftOf es (seen.push e.born)).size < (leftOf es seen).size) := hlt
      have HR3 : Hid (w3.heap[r]? = some (.mapIter (some p.m) cl (seen.push e.born) cl)) := hr3
      have HM3 : Hid (w3.heap[p.m]? = some (.map es cl)) := hm3
      have HK3 : Hid (Kp none' w w3) := hK3'
      have Hb : Hid ((zs.length + 1) * 8 ≤ 140737488355328 ∧ zs.length + 1 ≤ maxLen ∧ w.heap.size ≤ (w3.alloc (.cells #[.int .i64 (i : Int)] 3)).heap.size) := by
        have := hK3'.size
        exact ⟨by omega, by unfold maxLen; omega, by simp; omega⟩
      have hO4 := World.ownsRow.alloc hO3 (.cells #[.int .i64 (i : Int)] 3)
      clear hM he hns hk hlt hr3 hm3 hK3 hK3' hr hm hKr hO hne hsz hu
      go_wp2_with (at_builtin; refine wpList_append_row _ rfl (.tmp 16) (.tmp 18) 41 41 rfl w.heap.size 3 i0 _ 1 8 Tryz.underlying41 hi hz0 rfl hz1 hz2 u3 _ _ rfl hO4 _ 1 [.int .i64 (i : Int)] rfl (src_cell _ 41 3 Tryz.underlying41 _ rfl _ rfl) (by omega) Hb.out.1 Hb.out.2.1 Hb.out.2.2 ?_; intro v4 w4 hO5 hg4 hv4)
      have hk4 : Kp (fun k => u3.ownBlock = some k) w3 w4 := ((Kp.alloc _ w3 _)).then (Kp.ofGrown hg4 (fun k hk _ => hk))
      have hlt3 : r < w3.heap.size := (Array.getElem?_eq_some_iff.1 HR3.out).1
      have hm4 : w4.heap[p.m]? = some (.map es cl) := by
        rw [hk4.block _ (Array.getElem?_eq_some_iff.1 HM3.out).1 (fun h => by have := (hO3.lt _ h).1; omega)]
        exact HM3.out
      have hr4 : w4.heap[r]? = some (.mapIter (some p.m) cl (seen.push e.born) cl) := by
        rw [hk4.block _ hlt3 (hO3.ne_iter HR3.out)]
        exact HR3.out
      have hK4 : Kp none' w w4 := HK3.out.trans hk4 (fun _ _ h => h) (fun k hk h => absurd hk (by have := (hO3.lt k h).1; omega))
      have S4 := HS.out.step HM.out HE.out.1 HE.out.2.1 HE.out.2.2 hr4 hm4 hK4 (v' := v4) (by unfold Ow; rw [List.map_append, List.length_append]; exact hO5)
      go_roundw
      case rel => exact ⟨_, _, _, S4⟩
      case measure =>
        rw [HL.out, itLeft_eq es hr4]
        exact HLt.out

end Go.Proofs.YtmnedhlgplkfhaaGreat
