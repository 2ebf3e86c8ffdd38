/- The map of sectors that aren't sure: a look, a store, clear, and the loop over it. Conditions: those that each theorem states. -/
import Derived.Test.YtgfijbbibafdfaaGreatDSettle
namespace Go.Proofs.YtgfijbbibafdfaaGreat
open Go.RowKit
open Go.ChangeMaps (setBlock)
set_option linter.unusedVariables false

theorem zeroSec (w : World) : (zeroValue 79).run Tryz.prog w = .ok (.agg (bcs noughts).toArray) w := Tryz.zeroValue79 w

theorem Mp.keys {u : Nat → Option (List UInt8)} {es : List MapEntry} {cl : Nat} (h : Mp u es cl) : ∀ e ∈ es, ∃ z : Int, e.key = .int .i64 z := fun e he => by
  obtain ⟨i, x, _, hk, _⟩ := h.e1 e he
  exact ⟨_, hk⟩
theorem Mp.find {u : Nat → Option (List UInt8)} {es : List MapEntry} {cl : Nat} (h : Mp u es cl) (i : Nat) :
    (u i = none ∧ Instr.findNow (.int .i64) (.int .i64 (i : Int)) es 0 = some none ∧ ∀ e ∈ es, e.key ≠ .int .i64 (i : Int)) ∨
    ∃ j e x, u i = some x ∧ es[j]? = some e ∧ e.key = .int .i64 (i : Int) ∧ e.val = secV x ∧ Instr.findNow (.int .i64) (.int .i64 (i : Int)) es 0 = some (some (j, secV x)) := by
  rcases find_spec (i : Int) es 0 h.keys with ⟨h1, h2⟩ | ⟨j, e, h1, h2, h3⟩
  · refine .inl ⟨?_, h1, h2⟩
    cases hu : u i with
    | none => rfl
    | some x =>
      obtain ⟨e, he, hk⟩ := h.e2 i x hu
      exact absurd hk (h2 e he)
  · obtain ⟨i', x, hu, hk, hv⟩ := h.e1 e (List.mem_of_getElem? h1)
    have : i' = i := by
      rw [h2] at hk
      have := (Value.int.inj hk).2
      omega
    subst this
    exact .inr ⟨j, e, x, hu, h1, h2, hv, by rw [h3, hv]; simp⟩

/-- What a look finds. -/
def lookV (u : Nat → Option (List UInt8)) (i : Nat) : List UInt8 := (u i).getD noughts
theorem run_look {w : World} {m : Nat} {es : Array MapEntry} {cl : Nat} {u : Nat → Option (List UInt8)} (hm : w.heap[m]? = some (.map es cl)) (h : Mp u es.toList cl) (i : Nat) (ok : Bool) :
    (Instr.lookup 62 (.map (some m)) (.int .i64 (i : Int)) ok).run Tryz.prog w = .ok (if ok then .tuple #[.agg (bcs (lookV u i)).toArray, .bool (u i).isSome] else .agg (bcs (lookV u i)).toArray) w := by
  rcases h.find i with ⟨h1, h2, _⟩ | ⟨j, e, x, h1, _, _, _, h2⟩
  · simp only [Instr.lookup, Sem.run_bind, run_underlying Tryz.underlying62, Result.andThen_ok, MapKept.run_getObj_map hm, Sem.run_pure, run_check, Instr.findKey, run_underlying Tryz.underlying3, h2, zeroSec, lookV, h1, Option.getD_none, Option.isSome_none]
  · simp only [Instr.lookup, Sem.run_bind, run_underlying Tryz.underlying62, Result.andThen_ok, MapKept.run_getObj_map hm, Sem.run_pure, run_check, Instr.findKey, run_underlying Tryz.underlying3, h2, lookV, h1, Option.getD_some, Option.isSome_some, secV]

/-- A sector more that isn't sure. -/
def put (u : Nat → Option (List UInt8)) (i : Nat) (x : List UInt8) : Nat → Option (List UInt8) := fun k => if k = i then some x else u k
theorem run_putM {w : World} {m : Nat} {es : Array MapEntry} {cl : Nat} {u : Nat → Option (List UInt8)} (hm : w.heap[m]? = some (.map es cl)) (h : Mp u es.toList cl) (i : Nat) (x : List UInt8) :
    ∃ es' cl', (Instr.mapUpdate 62 (.map (some m)) (.int .i64 (i : Int)) (.agg (bcs x).toArray)).run Tryz.prog w = .ok () (setBlock w m (.map es' cl')) ∧ Mp (put u i x) es'.toList cl' := by
  rcases h.find i with ⟨h1, h2, h3⟩ | ⟨j, e, y, h1, h3, h4, h5, h2⟩
  · refine ⟨es.push { key := .int .i64 (i : Int), val := .agg (bcs x).toArray, born := cl }, cl + 1, ?_, ?_⟩
    · simp only [Instr.mapUpdate, Sem.run_bind, run_underlying Tryz.underlying62, Result.andThen_ok, MapKept.run_getObj_map hm, Sem.run_pure, run_check, Instr.findKey, run_underlying Tryz.underlying3, h2, MapKept.run_setObj_map _ hm]
      rfl
    · have ne : ∀ k y, u k = some y → k ≠ i := fun k y hk e => by subst e; rw [h1] at hk; cases hk
      rw [Array.toList_push]
      refine ⟨fun e he => ?_, fun k y hk => ?_, ?_, fun e he => ?_, ?_⟩
      · rcases List.mem_append.1 he with he | he
        · obtain ⟨k, y, a, b, c⟩ := h.e1 e he
          exact ⟨k, y, by simp [put, ne k y a, a], b, c⟩
        · have : e = { key := .int .i64 (i : Int), val := .agg (bcs x).toArray, born := cl } := by simpa using he
          subst this
          exact ⟨i, x, by simp [put], rfl, rfl⟩
      · by_cases e : k = i
        · subst e
          exact ⟨{ key := .int .i64 (k : Int), val := .agg (bcs x).toArray, born := cl }, List.mem_append.2 (.inr (by simp)), rfl⟩
        · simp only [put, e, if_false] at hk
          obtain ⟨e', he', hk'⟩ := h.e2 k y hk
          exact ⟨e', List.mem_append.2 (.inl he'), hk'⟩
      · rw [List.pairwise_append]
        refine ⟨h.e3, List.pairwise_singleton _ _, fun a ha b hb => ?_⟩
        have : b = { key := .int .i64 (i : Int), val := .agg (bcs x).toArray, born := cl } := by simpa using hb
        subst this
        exact h3 a ha
      · rcases List.mem_append.1 he with he | he
        · have := h.e4 e he
          omega
        · have : e = { key := .int .i64 (i : Int), val := .agg (bcs x).toArray, born := cl } := by simpa using he
          subst this
          exact Nat.lt_succ_self _
      · rw [List.map_append, List.nodup_append]
        refine ⟨h.e5, by simp, fun a ha b hb => ?_⟩
        obtain ⟨e, he, rfl⟩ := List.mem_map.1 ha
        have := h.e4 e he
        have : b = cl := by simpa using hb
        omega
  · have hj : j < es.size := by have := (List.getElem?_eq_some_iff.1 h3).1; simpa using this
    have hej : es[j]? = some e := by rw [← Array.getElem?_toList]; exact h3
    refine ⟨es.modify j fun e => { e with key := .int .i64 (i : Int), val := .agg (bcs x).toArray }, cl, ?_, ?_⟩
    · have hs : (Instr.keyThatStays (.int .i64 (i : Int)) (.int .i64 (i : Int))).run Tryz.prog w = .ok (.int .i64 (i : Int)) w := by
        unfold Instr.keyThatStays
        rw [if_pos (by simp [Instr.sameBits])]
        rfl
      simp only [Instr.mapUpdate, Sem.run_bind, run_underlying Tryz.underlying62, Result.andThen_ok, MapKept.run_getObj_map hm, Sem.run_pure, run_check, Instr.findKey, run_underlying Tryz.underlying3, h2, hej, Option.map_some, Option.getD_some, h4, hs, MapKept.run_setObj_map _ hm]
      rfl
    · have hl : (es.modify j fun e => { e with key := .int .i64 (i : Int), val := .agg (bcs x).toArray }).toList = es.toList.modify j fun e => { e with key := .int .i64 (i : Int), val := .agg (bcs x).toArray } := by simp
      rw [hl]
      have hget : ∀ (k : Nat) (e' : MapEntry), (es.toList.modify j fun e => { e with key := .int .i64 (i : Int), val := .agg (bcs x).toArray })[k]? = some e' →
          (k = j ∧ e' = { e with key := .int .i64 (i : Int), val := .agg (bcs x).toArray }) ∨ (k ≠ j ∧ es.toList[k]? = some e') := by
        intro k e' hk
        rw [List.getElem?_modify] at hk
        by_cases ek : j = k
        · subst ek
          rw [h3] at hk
          simp at hk
          exact .inl ⟨rfl, hk.symm⟩
        · simp only [ek, if_false] at hk
          exact .inr ⟨fun e => ek e.symm, by simpa using hk⟩
      have hkeys : (es.toList.modify j fun e => { e with key := .int .i64 (i : Int), val := .agg (bcs x).toArray }).map (·.key) = es.toList.map (·.key) := by
        apply List.ext_getElem?
        intro k
        rw [List.getElem?_map, List.getElem?_map, List.getElem?_modify]
        by_cases ek : j = k
        · subst ek
          rw [h3]
          simp [h4]
        · simp [ek]
      have hborn : (es.toList.modify j fun e => { e with key := .int .i64 (i : Int), val := .agg (bcs x).toArray }).map (·.born) = es.toList.map (·.born) := by
        apply List.ext_getElem?
        intro k
        rw [List.getElem?_map, List.getElem?_map, List.getElem?_modify]
        by_cases ek : j = k
        · subst ek
          rw [h3]
          simp
        · simp [ek]
      have huniq : ∀ k e', es.toList[k]? = some e' → e'.key = .int .i64 (i : Int) → k = j := fun k e' hk hkey => by
        have hp := List.pairwise_iff_getElem.1 h.e3
        have hk' := (List.getElem?_eq_some_iff.1 hk)
        have hj' := (List.getElem?_eq_some_iff.1 h3)
        obtain ⟨lk, vk⟩ := hk'
        obtain ⟨lj, vj⟩ := hj'
        rcases Nat.lt_trichotomy k j with hlt | heq | hgt
        · exact absurd (by rw [vk, vj, hkey, h4]) (hp k j lk lj hlt)
        · exact heq
        · exact absurd (by rw [vk, vj, hkey, h4]) (hp j k lj lk hgt)
      refine ⟨fun e' he' => ?_, fun k y' hk => ?_, ?_, fun e' he' => ?_, by rw [hborn]; exact h.e5⟩
      · obtain ⟨k, hk⟩ := List.getElem?_of_mem he'
        rcases hget k e' hk with ⟨rfl, rfl⟩ | ⟨hne, hk'⟩
        · exact ⟨i, x, by simp [put], rfl, rfl⟩
        · obtain ⟨k', y', a, b, c⟩ := h.e1 e' (List.mem_of_getElem? hk')
          have : k' ≠ i := fun e0 => hne (huniq k e' hk' (by rw [b, e0]))
          exact ⟨k', y', by simp [put, this, a], b, c⟩
      · have : ∃ y0, u k = some y0 := by
          by_cases e0 : k = i
          · subst e0; exact ⟨y, h1⟩
          · simp only [put, e0, if_false] at hk; exact ⟨y', hk⟩
        obtain ⟨y0, hy0⟩ := this
        obtain ⟨e', he', hk'⟩ := h.e2 k y0 hy0
        have hmem : (Value.int .i64 (k : Int)) ∈ (es.toList.modify j fun e => { e with key := .int .i64 (i : Int), val := .agg (bcs x).toArray }).map (·.key) := by
          rw [hkeys, ← hk']
          exact List.mem_map_of_mem he'
        obtain ⟨e2, he2, hk2⟩ := List.mem_map.1 hmem
        exact ⟨e2, he2, hk2⟩
      · have := List.pairwise_map (f := fun e : MapEntry => e.key) (R := (· ≠ ·)) (l := es.toList.modify j fun e => { e with key := .int .i64 (i : Int), val := .agg (bcs x).toArray })
        rw [← this, hkeys, List.pairwise_map]
        exact h.e3
      · have hmem : e'.born ∈ (es.toList.modify j fun e => { e with key := .int .i64 (i : Int), val := .agg (bcs x).toArray }).map (·.born) := List.mem_map_of_mem he'
        rw [hborn] at hmem
        obtain ⟨e2, he2, hb2⟩ := List.mem_map.1 hmem
        rw [← hb2]
        exact h.e4 e2 he2

theorem run_clearM {w : World} {m : Nat} {es : Array MapEntry} {cl : Nat} (ty : TypeId) (hm : w.heap[m]? = some (.map es cl)) :
    (Builtin.clear_ #[62] ty #[.map (some m)]).run Tryz.prog w = .ok (.tuple #[]) (setBlock w m (.map #[] cl)) := by
  have h1 : (#[62] : Array TypeId)[0]? = some 62 := rfl
  have h2 : (#[Value.map (some m)] : Array Value)[0]? = some (.map (some m)) := rfl
  simp only [Builtin.clear_, h1, h2, Sem.run_bind, run_underlying Tryz.underlying62, Result.andThen_ok, MapKept.run_getObj_map hm, MapKept.run_setObj_map _ hm, Sem.run_pure]
  rfl

theorem Dev.setM {w : World} {p : Dp} {D : Dv} (h : Dev w p D) (es : Array MapEntry) (cl : Nat) (u : Nat → Option (List UInt8)) (hM : Mp u es.toList cl) (hu : ∀ i x, u i = some x → i < D.n ∧ x.length = 64) :
    Dev (setBlock w p.m (.map es cl)) p { D with u := u } := by
  have hk : Kp (only p.m) w (setBlock w p.m (.map es cl)) := Kp.setBlock w p.m _ rfl
  have hd : ¬ only p.m p.d := fun e => h.dm e
  have hs : ¬ only p.m p.s := fun e => h.sm e
  exact ⟨hk.cell h.c0 hd, hk.cell h.c1 hd, hk.cell h.c2 hd, hk.cell h.c3 hd, hk.cell h.c4 hd, fun j => by rw [hk.frozen h.ld hd]; exact h.fd j,
    fun i hi => hk.rangeAt (h.rs i hi) hs, hk.there h.ts hs, Nat.lt_of_lt_of_le h.ls hk.size, ⟨es, cl, by
      have := h.lm
      unfold ChangeMaps.setBlock
      simp [this], hM⟩, h.ds, h.dm, h.sm, h.n4, h.l1, hu⟩

end Go.Proofs.YtgfijbbibafdfaaGreat
