/- A map with numbers for keys, in a block of its own: what it holds, a look, a store; for every program whose map has such keys. Conditions: those that each theorem states. -/
import Derived.Test.YtgfijbbibafdfaaGreatGBase
namespace Go.Proofs.YtgfijbbibafdfaaGreat
open Go.RowKit
open Go.ChangeMaps (setBlock)
set_option linter.unusedVariables false

/-- The entries of a map: just those of c, no key twice, each with a stamp of its own. -/
structure Mi (c : Int → Option Value) (es : List MapEntry) (cl : Nat) : Prop where
  e1 : ∀ e ∈ es, ∃ z : Int, e.key = .int .i64 z ∧ c z = some e.val
  e2 : ∀ z x, c z = some x → ∃ e ∈ es, e.key = .int .i64 z
  e3 : es.Pairwise (fun a b => a.key ≠ b.key)
  e4 : ∀ e ∈ es, e.born < cl
  e5 : (es.map (·.born)).Nodup
theorem Mi.nil (cl : Nat) : Mi (fun _ => none) [] cl := ⟨by simp, by simp, List.Pairwise.nil, by simp, by simp⟩
theorem Mi.keys {c : Int → Option Value} {es : List MapEntry} {cl : Nat} (h : Mi c es cl) : ∀ e ∈ es, ∃ z : Int, e.key = .int .i64 z := fun e he => by
  obtain ⟨z, hk, _⟩ := h.e1 e he
  exact ⟨z, hk⟩
theorem Mi.find {c : Int → Option Value} {es : List MapEntry} {cl : Nat} (h : Mi c es cl) (z : Int) :
    (c z = none ∧ Instr.findNow (.int .i64) (.int .i64 z) es 0 = some none ∧ ∀ e ∈ es, e.key ≠ .int .i64 z) ∨
    ∃ j e, c z = some e.val ∧ es[j]? = some e ∧ e.key = .int .i64 z ∧ Instr.findNow (.int .i64) (.int .i64 z) es 0 = some (some (j, e.val)) := by
  rcases find_spec z es 0 h.keys with ⟨h1, h2⟩ | ⟨j, e, h1, h2, h3⟩
  · refine .inl ⟨?_, h1, h2⟩
    cases hu : c z with
    | none => rfl
    | some x =>
      obtain ⟨e, he, hk⟩ := h.e2 z x hu
      exact absurd hk (h2 e he)
  · obtain ⟨z', hk, hv⟩ := h.e1 e (List.mem_of_getElem? h1)
    have : z' = z := by
      rw [h2] at hk
      exact ((Value.int.inj hk).2).symm
    subst this
    exact .inr ⟨j, e, hv, h1, h2, by rw [h3]; simp⟩
/-- One entry more, or another value. -/
def putI (c : Int → Option Value) (z : Int) (x : Value) : Int → Option Value := fun k => if k = z then some x else c k
theorem run_lookI {w : World} {m : Nat} {es : Array MapEntry} {cl : Nat} {c : Int → Option Value} {t e : TypeId} (ht : Tryz.prog.underlying t = some (.map 3 e)) {zv : Value} (hz : ∀ W, (zeroValue e).run Tryz.prog W = .ok zv W)
    (hm : w.heap[m]? = some (.map es cl)) (h : Mi c es.toList cl) (z : Int) (ok : Bool) :
    (Instr.lookup t (.map (some m)) (.int .i64 z) ok).run Tryz.prog w = .ok (if ok then .tuple #[(c z).getD zv, .bool (c z).isSome] else (c z).getD zv) w := by
  rcases h.find z with ⟨h1, h2, _⟩ | ⟨j, e, h1, _, _, h2⟩
  · simp only [Instr.lookup, Sem.run_bind, run_underlying ht, Result.andThen_ok, MapKept.run_getObj_map hm, Sem.run_pure, run_check, Instr.findKey, run_underlying Tryz.underlying3, h2, hz, h1, Option.getD_none, Option.isSome_none]
  · simp only [Instr.lookup, Sem.run_bind, run_underlying ht, Result.andThen_ok, MapKept.run_getObj_map hm, Sem.run_pure, run_check, Instr.findKey, run_underlying Tryz.underlying3, h2, h1, Option.getD_some, Option.isSome_some]
theorem run_putI {w : World} {m : Nat} {es : Array MapEntry} {cl : Nat} {c : Int → Option Value} {t e : TypeId} (ht : Tryz.prog.underlying t = some (.map 3 e)) (hm : w.heap[m]? = some (.map es cl)) (h : Mi c es.toList cl) (z : Int) (x : Value) :
    ∃ es' cl', (Instr.mapUpdate t (.map (some m)) (.int .i64 z) x).run Tryz.prog w = .ok () (setBlock w m (.map es' cl')) ∧ Mi (putI c z x) es'.toList cl' := by
  rcases h.find z with ⟨h1, h2, h3⟩ | ⟨j, e, h1, h3, h4, h2⟩
  · refine ⟨es.push { key := .int .i64 z, val := x, born := cl }, cl + 1, ?_, ?_⟩
    · simp only [Instr.mapUpdate, Sem.run_bind, run_underlying ht, Result.andThen_ok, MapKept.run_getObj_map hm, Sem.run_pure, run_check, Instr.findKey, run_underlying Tryz.underlying3, h2, MapKept.run_setObj_map _ hm]
      rfl
    · have ne : ∀ k y, c k = some y → k ≠ z := fun k y hk e => by subst e; rw [h1] at hk; cases hk
      rw [Array.toList_push]
      refine ⟨fun e he => ?_, fun k y hk => ?_, ?_, fun e he => ?_, ?_⟩
      · rcases List.mem_append.1 he with he | he
        · obtain ⟨k, b, a⟩ := h.e1 e he
          exact ⟨k, b, by simp [putI, ne k _ a, a]⟩
        · have : e = { key := .int .i64 z, val := x, born := cl } := by simpa using he
          subst this
          exact ⟨z, rfl, by simp [putI]⟩
      · by_cases e : k = z
        · subst e
          exact ⟨{ key := .int .i64 k, val := x, born := cl }, List.mem_append.2 (.inr (by simp)), rfl⟩
        · simp only [putI, e, if_false] at hk
          obtain ⟨e', he', hk'⟩ := h.e2 k y hk
          exact ⟨e', List.mem_append.2 (.inl he'), hk'⟩
      · rw [List.pairwise_append]
        refine ⟨h.e3, List.pairwise_singleton _ _, fun a ha b hb => ?_⟩
        have : b = { key := .int .i64 z, val := x, born := cl } := by simpa using hb
        subst this
        exact h3 a ha
      · rcases List.mem_append.1 he with he | he
        · have := h.e4 e he
          omega
        · have : e = { key := .int .i64 z, val := x, born := cl } := by simpa using he
          subst this
          exact Nat.lt_succ_self _
      · rw [List.map_append, List.nodup_append]
        refine ⟨h.e5, by simp, fun a ha b hb => ?_⟩
        obtain ⟨e, he, rfl⟩ := List.mem_map.1 ha
        have := h.e4 e he
        have : b = cl := by simpa using hb
        omega
  · have hj : j < es.size := by have := (List.getElem?_eq_some_iff.1 h3).1; simpa using this
    have hej : es[j]? = some e := by rw [← Array.getElem?_toList]; exact h3
    refine ⟨es.modify j fun e => { e with key := .int .i64 z, val := x }, cl, ?_, ?_⟩
    · have hs : (Instr.keyThatStays (.int .i64 z) (.int .i64 z)).run Tryz.prog w = .ok (.int .i64 z) w := by
        unfold Instr.keyThatStays
        rw [if_pos (by simp [Instr.sameBits])]
        rfl
      simp only [Instr.mapUpdate, Sem.run_bind, run_underlying ht, Result.andThen_ok, MapKept.run_getObj_map hm, Sem.run_pure, run_check, Instr.findKey, run_underlying Tryz.underlying3, h2, hej, Option.map_some, Option.getD_some, h4, hs, MapKept.run_setObj_map _ hm]
      rfl
    · have hl : (es.modify j fun e => { e with key := .int .i64 z, val := x }).toList = es.toList.modify j fun e => { e with key := .int .i64 z, val := x } := by simp
      rw [hl]
      have hget : ∀ (k : Nat) (e' : MapEntry), (es.toList.modify j fun e => { e with key := .int .i64 z, val := x })[k]? = some e' →
          (k = j ∧ e' = { e with key := .int .i64 z, val := x }) ∨ (k ≠ j ∧ es.toList[k]? = some e') := by
        intro k e' hk
        rw [List.getElem?_modify] at hk
        by_cases ek : j = k
        · subst ek
          rw [h3] at hk
          simp at hk
          exact .inl ⟨rfl, hk.symm⟩
        · simp only [ek, if_false] at hk
          exact .inr ⟨fun e => ek e.symm, by simpa using hk⟩
      have hkeys : (es.toList.modify j fun e => { e with key := .int .i64 z, val := x }).map (·.key) = es.toList.map (·.key) := by
        apply List.ext_getElem?
        intro k
        rw [List.getElem?_map, List.getElem?_map, List.getElem?_modify]
        by_cases ek : j = k
        · subst ek
          rw [h3]
          simp [h4]
        · simp [ek]
      have hborn : (es.toList.modify j fun e => { e with key := .int .i64 z, val := x }).map (·.born) = es.toList.map (·.born) := by
        apply List.ext_getElem?
        intro k
        rw [List.getElem?_map, List.getElem?_map, List.getElem?_modify]
        by_cases ek : j = k
        · subst ek
          rw [h3]
          simp
        · simp [ek]
      have huniq : ∀ k e', es.toList[k]? = some e' → e'.key = .int .i64 z → k = j := fun k e' hk hkey => by
        have hp := List.pairwise_iff_getElem.1 h.e3
        have hk' := (List.getElem?_eq_some_iff.1 hk)
        have hj' := (List.getElem?_eq_some_iff.1 h3)
        obtain ⟨lk, vk⟩ := hk'
        obtain ⟨lj, vj⟩ := hj'
        rcases Nat.lt_trichotomy k j with hlt | heq | hgt
        · exact absurd (by rw [vk, vj, hkey, h4]) (hp k j lk lj hlt)
        · exact heq
        · exact absurd (by rw [vk, vj, hkey, h4]) (hp j k lj lk hgt)
      refine ⟨fun e' he' => ?_, fun k y' hk => ?_, ?_, fun e' he' => ?_, by rw [hborn]; exact h.e5⟩
      · obtain ⟨k, hk⟩ := List.getElem?_of_mem he'
        rcases hget k e' hk with ⟨rfl, rfl⟩ | ⟨hne, hk'⟩
        · exact ⟨z, rfl, by simp [putI]⟩
        · obtain ⟨k', b, a⟩ := h.e1 e' (List.mem_of_getElem? hk')
          have : k' ≠ z := fun e0 => hne (huniq k e' hk' (by rw [b, e0]))
          exact ⟨k', b, by simp [putI, this, a]⟩
      · have : ∃ y0, c k = some y0 := by
          by_cases e0 : k = z
          · subst e0; exact ⟨_, h1⟩
          · simp only [putI, e0, if_false] at hk; exact ⟨y', hk⟩
        obtain ⟨y0, hy0⟩ := this
        obtain ⟨e', he', hk'⟩ := h.e2 k y0 hy0
        have hmem : (Value.int .i64 k) ∈ (es.toList.modify j fun e => { e with key := .int .i64 z, val := x }).map (·.key) := by
          rw [hkeys, ← hk']
          exact List.mem_map_of_mem he'
        obtain ⟨e2, he2, hk2⟩ := List.mem_map.1 hmem
        exact ⟨e2, he2, hk2⟩
      · have := List.pairwise_map (f := fun e : MapEntry => e.key) (R := (· ≠ ·)) (l := es.toList.modify j fun e => { e with key := .int .i64 z, val := x })
        rw [← this, hkeys, List.pairwise_map]
        exact h.e3
      · have hmem : e'.born ∈ (es.toList.modify j fun e => { e with key := .int .i64 z, val := x }).map (·.born) := List.mem_map_of_mem he'
        rw [hborn] at hmem
        obtain ⟨e2, he2, hb2⟩ := List.mem_map.1 hmem
        rw [← hb2]
        exact h.e4 e2 he2

end Go.Proofs.YtgfijbbibafdfaaGreat
