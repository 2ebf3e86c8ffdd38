/- Contracts, over the turned program: undo.filled, undo.Mark, undo.Marked, undo.Image, undo.Place, undo.Need. Conditions: those that each theorem states. A map with numbers for keys, in a block of its own: what it holds, a look, a store; for every program whose map has such keys. Conditions: those that each theorem states. Contracts, over the turned program: undo.mayBe and undo.Write at any list of numbers. Conditions: those that each theorem states. Contracts, over the turned program: undo.Write at any list of numbers. Conditions: those that each theorem states. Contracts, over the turned program: undo.Read of any bytes. Conditions: those that each theorem states. Contract, over the turned program: the first look of every statement on undo. Conditions: those that each theorem states. Plain facts on directories: what is written is read again; where it is read, it was read well. No conditions but those that each states. Contracts, over the turned program: undo.Cut, the document's Cut and Join, and sameTexts. Conditions: those that each theorem states. Contracts, over the turned program: the document's Join of sectors. Conditions: those that each theorem states. -/
import Derived.Test.YtmnedhlgplkfhaaGreatJB
import Derived.Laws.CopyRow
namespace Go.Proofs.YtmnedhlgplkfhaaGreat
open Go.RowKit
open Go.ChangeMaps (setBlock)
set_option linter.unusedVariables false

theorem zeroArr (w : World) : (zeroValue 134).run Tryz.prog w = .ok (.agg (bcs noughts).toArray) w := Tryz.zeroValue134 w
theorem wpList_alloc_arr {w : World} {ops : Array Oper} {rest : List Oper} {o : Oper} {a : Act} {Q : Exit → Act → World → Prop} (hgd : o.guard = none) (ho : o.op = .alloc 134)
    (h : wpList Tryz.prog ops Q rest (a.put o.dst (.pointer (some ⟨w.heap.size, 0, none⟩))) (w.alloc (.cells (bcs noughts).toArray 134))) : wpList Tryz.prog ops Q (o :: rest) a w :=
  wpList_plain hgd fun _ hK => by
    unfold Oper.wp execOp
    simp only [ho, Instr.alloc, newVar, newRow, Value.cells, Sem.run_bind, Sem.run_pure, Result.andThen_ok, zeroArr]
    exact hK _ _ h
theorem whole_cells (l : List UInt8) : ((bcs noughts).toArray.toList.take 0 ++ (bcs l).take 64 ++ (bcs noughts).toArray.toList.drop (0 + ((bcs l).take 64).length)).toArray = (bcs (whole l)).toArray := by
  have hl : ((bcs l).take 64).length = min 64 l.length := by rw [List.length_take, bcs_len]
  have e : whole l = l.take 64 ++ noughts.drop (min 64 l.length) := by
    unfold whole
    rw [List.take_append]
    congr 1
    unfold noughts
    rw [List.take_replicate, List.drop_replicate]
    congr 1
    omega
  rw [e, bcs_append, hl]
  simp [bcs, List.map_drop, List.map_take]
theorem run_copy_own (w : World) (v : Value) (l : List UInt8) (base : Nat) (h : Own 5 w base v l) :
    ∃ n : Nat, (Builtin.copy_ #[98, 98] 3 #[.slice (some ⟨w.heap.size, 0, none⟩) 64 64, v]).run Tryz.prog (w.alloc (.cells (bcs noughts).toArray 134)) =
    .ok (goInt n) (w.alloc (.cells (bcs (whole l)).toArray 134)) := by
  have h' := h.alloc (.cells (bcs noughts).toArray 134)
  rcases h'.shape with ⟨rfl, rfl⟩ | ⟨g, cap, rfl, _, _, hc⟩
  · refine ⟨0, ?_⟩
    rw [run_copy_nil (P := Tryz.prog) _ 98 98 3 5 _ 64 64 Tryz.underlying98 (by kernel_rfl)]
    rfl
  · refine ⟨((bcs l).take 64).length, ?_⟩
    · have hr := run_copy_row (P := Tryz.prog) (w.alloc (.cells (bcs noughts).toArray 134)) 98 98 3 5 w.heap.size 0 64 64 ⟨g, 0, none⟩ l.length cap (bcs noughts).toArray 134 ((bcs l).take 64) Tryz.underlying98 (by kernel_rfl) (heap_alloc_last w _)
        (by rw [List.length_take, bcs_len]; exact Nat.min_comm _ _) (fun j u hj => by
          have hlt := (List.getElem?_eq_some_iff.1 hj).1
          rw [List.length_take, bcs_len] at hlt
          rw [List.getElem?_take_of_lt (by omega), bcs_at l j (by omega)] at hj
          have e : (⟨g, 0, none⟩ : Addr).add j = ⟨g, j, none⟩ := by unfold Addr.add; split <;> simp_all
          rw [e, hc j (by omega)]
          exact hj) (by rw [List.length_take, bcs_len]; simp [bcs_len, noughts_len]; omega) (fun u hu => bcs_one l u (List.mem_of_mem_take hu))
      rw [hr, whole_cells l, World.setRow_alloc_new]
theorem arr_cells (w : World) (x : List UInt8) (t : TypeId) (j : Nat) (hj : j < x.length) : (w.alloc (.cells (bcs x).toArray t)).cell? ((⟨w.heap.size, 0, none⟩ : Addr).add j) = some (.int .u8 (x[j].toNat : Int)) := by
  have e : (⟨w.heap.size, 0, none⟩ : Addr).add j = ⟨w.heap.size, j, none⟩ := by unfold Addr.add; split <;> simp_all
  rw [e, cell_of_row _ _ _ _ _ _ (heap_alloc_last w _)]
  simpa using bcs_at x j hj
theorem run_str_arr (w : World) (x : List UInt8) (hx : x.length = 64) : (convert 98 9 (.slice (some ⟨w.heap.size, 0, none⟩) 64 64)).run Tryz.prog (w.alloc (.cells (bcs x).toArray 134)) = .ok (.string ⟨x.toArray⟩) (w.alloc (.cells (bcs x).toArray 134)) := by
  have := run_convert_bytes_back (P := Tryz.prog) (w.alloc (.cells (bcs x).toArray 134)) 98 9 5 ⟨w.heap.size, 0, none⟩ 64 x Tryz.underlying98 Tryz.underlying5 Tryz.underlying9 (fun j hj => arr_cells w x _ j hj)
  rw [hx] at this
  exact this

set_option maxRecDepth 100000 in
set_option maxHeartbeats 400000 in
theorem filled_any (v : Value) (l : List UInt8) (base : Nat) (w : World) (h : Own 5 w base v l) :
    Calls Tryz.prog 121 #[v] w fun e w' => e = .returned (.string ⟨(whole l).toArray⟩) ∧ Kp none' w w' := by
  obtain ⟨n, hcp⟩ := run_copy_own w v l base h
  have hcv := run_str_arr w (whole l) (whole_len l)
  have hka := Kp.alloc none' w (.cells (bcs (whole l)).toArray 134)
  clear h
  obtain ⟨X, HX⟩ : ∃ X, Hid (whole l = X) := ⟨_, rfl⟩
  rw [HX.out] at hcp hcv hka ⊢
  go_enter Tryz.func121, Tryz.ntmps121
  go_upto_region 1 with fail
  refine wp_region_lit ?_
  refine wpList_alloc_arr rfl rfl ?_
  go_frame
  obtain ⟨w2, H2⟩ : ∃ w2, Hid (w.alloc (.cells (bcs noughts).toArray 134) = w2) := ⟨_, rfl⟩
  obtain ⟨w3, H3⟩ : ∃ w3, Hid (w.alloc (.cells (bcs X).toArray 134) = w3) := ⟨_, rfl⟩
  rw [H3.out] at hcp hcv hka
  rw [H2.out] at hcp ⊢
  generalize w.heap.size = g at *
  go_wp2_with (refine wpList_copy_at _ rfl (.tmp 4) (.tmp 5) 98 98 rfl _ _ rfl rfl hcp ?_)
  go_ret
  exact ⟨rfl, hka⟩

/-- Mark's bytes. -/
def markL (b : Bool) : List UInt8 := whole (if b then [1] else [])
theorem own_one (w : World) (c : UInt8) (z : Int) (hz : z = (c.toNat : Int)) : Own 5 (w.alloc (.cells #[.int .u8 z] 5)) w.heap.size (.slice (some ⟨w.heap.size, 0, none⟩) 1 1) [c] := by
  subst hz
  exact ⟨by simp [bcs], .inr ⟨w.heap.size, 1, _, rfl, Nat.le_refl _, heap_alloc_last w _, by simp, by unfold maxLen; omega, by simp, by simp [bcs]⟩⟩
set_option maxRecDepth 100000 in
set_option maxHeartbeats 400000 in
theorem mark_any (b : Bool) (w : World) : Calls Tryz.prog 100 #[.bool b] w fun e w' => e = .returned (.string ⟨(markL b).toArray⟩) ∧ Kp none' w w' := by
  cases b
  · go_enter Tryz.func100, Tryz.ntmps100
    go_wp2_with (go_at_call 121; refine (filled_any _ [] 0 _ (Own.nil _ _ _)).mono ?_; rintro e w' ⟨rfl, hk⟩)
    go_ret
    exact ⟨rfl, hk⟩
  · have ho := own_one w 1 1 rfl
    have hka := Kp.alloc none' w (.cells #[.int .u8 1] 5)
    go_enter Tryz.func100, Tryz.ntmps100
    go_wp2_with (go_at_call 121; refine (filled_any _ [1] _ _ ho).mono ?_; rintro e w' ⟨rfl, hk⟩)
    go_ret
    exact ⟨rfl, hka.then hk⟩
/-- Whether bytes say yes. -/
def saysB (s : ByteArray) : Bool := strN s != 0
set_option maxRecDepth 100000 in
set_option maxHeartbeats 400000 in
theorem marked_any (s : ByteArray) (w : World) : Calls Tryz.prog 103 #[.string s] w fun e w' => e = .returned (.bool (saysB s)) ∧ w' = w := by
  by_cases hs : 0 < s.size
  · have hN := strN_eq s hs
    have hi : 0 < (s.size : Int) := by omega
    have hb : ((strN s : Int) != 0) = saysB s := by
      unfold saysB
      rw [Bool.eq_iff_iff]
      simp
    go_enter Tryz.func103, Tryz.ntmps103
    go_wp2
    go_ret
    exact ⟨rfl, rfl⟩
  · have hz : s.size = 0 := by omega
    have hd : s.data.toList = [] := List.eq_nil_of_length_eq_zero (by rw [Array.length_toList]; exact hz)
    have hb : saysB s = false := by simp [saysB, strN, hd]
    rw [hb]
    go_enter Tryz.func103, Tryz.ntmps103
    go_wp2
    go_ret
    exact ⟨rfl, rfl⟩

set_option maxHeartbeats 400000 in
theorem image_any (k j : Int) (w : World) : Calls Tryz.prog 106 #[.int .i64 k, .int .i64 j] w fun e w' => e = .returned (.int .i64 (wrap64 (2 + 4 * k + j))) ∧ w' = w := by
  go_enter Tryz.func106, Tryz.ntmps106
  go_wp2
  go_ret
  exact ⟨reti (by first | rfl | go_num | (unfold wrap64; omega)), rfl⟩
set_option maxHeartbeats 400000 in
theorem place_any (k j : Int) (w : World) : Calls Tryz.prog 70 #[.int .i64 k, .int .i64 j] w fun e w' => e = .returned (.int .i64 (wrap64 (126 + 4 * k + j))) ∧ w' = w := by
  go_enter Tryz.func70, Tryz.ntmps70
  go_wp2
  go_ret
  exact ⟨reti (by first | rfl | go_num | (unfold wrap64; omega)), rfl⟩
set_option maxHeartbeats 400000 in
theorem need_any (k : Int) (w : World) : Calls Tryz.prog 60 #[.int .i64 k] w fun e w' => e = .returned (.int .i64 (wrap64 (126 + 4 * k))) ∧ w' = w := by
  go_enter Tryz.func60, Tryz.ntmps60
  go_wp2
  go_ret
  exact ⟨reti (by first | rfl | go_num | (unfold wrap64; omega)), rfl⟩

end Go.Proofs.YtmnedhlgplkfhaaGreat

namespace Go.Proofs.YtmnedhlgplkfhaaGreat
open Go.RowKit
open Go.ChangeMaps (setBlock)
set_option linter.unusedVariables false

/-- The entries of a map: just those of c, no key twice, each with a stamp of its own. -/
structure Mi (c : Int → Option Value) (es : List MapEntry) (cl : Nat) : Prop where
  e1 : ∀ e ∈ es, ∃ z : Int, e.key = .int .i64 z ∧ c z = some e.val
  e2 : ∀ z x, c z = some x → ∃ e ∈ es, e.key = .int .i64 z
  e3 : es.Pairwise (fun a b => a.key ≠ b.key)
  e4 : ∀ e ∈ es, e.born < cl
  e5 : (es.map (·.born)).Nodup
theorem Mi.nil (cl : Nat) : Mi (fun _ => none) [] cl := ⟨by simp, by simp, List.Pairwise.nil, by simp, by simp⟩
theorem Mi.keys {c : Int → Option Value} {es : List MapEntry} {cl : Nat} (h : Mi c es cl) : ∀ e ∈ es, ∃ z : Int, e.key = .int .i64 z := fun e he => by
  obtain ⟨z, hk, _⟩ := h.e1 e he
  exact ⟨z, hk⟩
theorem Mi.find {c : Int → Option Value} {es : List MapEntry} {cl : Nat} (h : Mi c es cl) (z : Int) :
    (c z = none ∧ Instr.findNow (.int .i64) (.int .i64 z) es 0 = some none ∧ ∀ e ∈ es, e.key ≠ .int .i64 z) ∨
    ∃ j e, c z = some e.val ∧ es[j]? = some e ∧ e.key = .int .i64 z ∧ Instr.findNow (.int .i64) (.int .i64 z) es 0 = some (some (j, e.val)) := by
  rcases find_spec z es 0 h.keys with ⟨h1, h2⟩ | ⟨j, e, h1, h2, h3⟩
  · refine .inl ⟨?_, h1, h2⟩
    cases hu : c z with
    | none => rfl
    | some x =>
      obtain ⟨e, he, hk⟩ := h.e2 z x hu
      exact absurd hk (h2 e he)
  · obtain ⟨z', hk, hv⟩ := h.e1 e (List.mem_of_getElem? h1)
    have : z' = z := by
      rw [h2] at hk
      exact ((Value.int.inj hk).2).symm
    subst this
    exact .inr ⟨j, e, hv, h1, h2, by rw [h3]; simp⟩
/-- One entry more, or another value. -/
def putI (c : Int → Option Value) (z : Int) (x : Value) : Int → Option Value := fun k => if k = z then some x else c k
theorem run_lookI {w : World} {m : Nat} {es : Array MapEntry} {cl : Nat} {c : Int → Option Value} {t e : TypeId} (ht : Tryz.prog.underlying t = some (.map 3 e)) {zv : Value} (hz : ∀ W, (zeroValue e).run Tryz.prog W = .ok zv W)
    (hm : w.heap[m]? = some (.map es cl)) (h : Mi c es.toList cl) (z : Int) (ok : Bool) :
    (Instr.lookup t (.map (some m)) (.int .i64 z) ok).run Tryz.prog w = .ok (if ok then .tuple #[(c z).getD zv, .bool (c z).isSome] else (c z).getD zv) w := by
  rcases h.find z with ⟨h1, h2, _⟩ | ⟨j, e, h1, _, _, h2⟩
  · simp only [Instr.lookup, Sem.run_bind, run_underlying ht, Result.andThen_ok, MapKept.run_getObj_map hm, Sem.run_pure, run_check, Instr.findKey, run_underlying Tryz.underlying3, h2, hz, h1, Option.getD_none, Option.isSome_none]
  · simp only [Instr.lookup, Sem.run_bind, run_underlying ht, Result.andThen_ok, MapKept.run_getObj_map hm, Sem.run_pure, run_check, Instr.findKey, run_underlying Tryz.underlying3, h2, h1, Option.getD_some, Option.isSome_some]
theorem run_putI {w : World} {m : Nat} {es : Array MapEntry} {cl : Nat} {c : Int → Option Value} {t e : TypeId} (ht : Tryz.prog.underlying t = some (.map 3 e)) (hm : w.heap[m]? = some (.map es cl)) (h : Mi c es.toList cl) (z : Int) (x : Value) :
    ∃ es' cl', (Instr.mapUpdate t (.map (some m)) (.int .i64 z) x).run Tryz.prog w = .ok () (setBlock w m (.map es' cl')) ∧ Mi (putI c z x) es'.toList cl' := by
  rcases h.find z with ⟨h1, h2, h3⟩ | ⟨j, e, h1, h3, h4, h2⟩
  · refine ⟨es.push { key := .int .i64 z, val := x, born := cl }, cl + 1, ?_, ?_⟩
    · simp only [Instr.mapUpdate, Sem.run_bind, run_underlying ht, Result.andThen_ok, MapKept.run_getObj_map hm, Sem.run_pure, run_check, Instr.findKey, run_underlying Tryz.underlying3, h2, MapKept.run_setObj_map _ hm]
      rfl
    · have ne : ∀ k y, c k = some y → k ≠ z := fun k y hk e => by subst e; rw [h1] at hk; cases hk
      rw [Array.toList_push]
      refine ⟨fun e he => ?_, fun k y hk => ?_, ?_, fun e he => ?_, ?_⟩
      · rcases List.mem_append.1 he with he | he
        · obtain ⟨k, b, a⟩ := h.e1 e he
          exact ⟨k, b, by simp [putI, ne k _ a, a]⟩
        · have : e = { key := .int .i64 z, val := x, born := cl } := by simpa using he
          subst this
          exact ⟨z, rfl, by simp [putI]⟩
      · by_cases e : k = z
        · subst e
          exact ⟨{ key := .int .i64 k, val := x, born := cl }, List.mem_append.2 (.inr (by simp)), rfl⟩
        · simp only [putI, e, if_false] at hk
          obtain ⟨e', he', hk'⟩ := h.e2 k y hk
          exact ⟨e', List.mem_append.2 (.inl he'), hk'⟩
      · rw [List.pairwise_append]
        refine ⟨h.e3, List.pairwise_singleton _ _, fun a ha b hb => ?_⟩
        have : b = { key := .int .i64 z, val := x, born := cl } := by simpa using hb
        subst this
        exact h3 a ha
      · rcases List.mem_append.1 he with he | he
        · have := h.e4 e he
          omega
        · have : e = { key := .int .i64 z, val := x, born := cl } := by simpa using he
          subst this
          exact Nat.lt_succ_self _
      · rw [List.map_append, List.nodup_append]
        refine ⟨h.e5, by simp, fun a ha b hb => ?_⟩
        obtain ⟨e, he, rfl⟩ := List.mem_map.1 ha
        have := h.e4 e he
        have : b = cl := by simpa using hb
        omega
  · have hj : j < es.size := by have := (List.getElem?_eq_some_iff.1 h3).1; simpa using this
    have hej : es[j]? = some e := by rw [← Array.getElem?_toList]; exact h3
    refine ⟨es.modify j fun e => { e with key := .int .i64 z, val := x }, cl, ?_, ?_⟩
    · have hs : (Instr.keyThatStays (.int .i64 z) (.int .i64 z)).run Tryz.prog w = .ok (.int .i64 z) w := by
        unfold Instr.keyThatStays
        rw [if_pos (by simp [Instr.sameBits])]
        rfl
      simp only [Instr.mapUpdate, Sem.run_bind, run_underlying ht, Result.andThen_ok, MapKept.run_getObj_map hm, Sem.run_pure, run_check, Instr.findKey, run_underlying Tryz.underlying3, h2, hej, Option.map_some, Option.getD_some, h4, hs, MapKept.run_setObj_map _ hm]
      rfl
    · have hl : (es.modify j fun e => { e with key := .int .i64 z, val := x }).toList = es.toList.modify j fun e => { e with key := .int .i64 z, val := x } := by simp
      rw [hl]
      have hget : ∀ (k : Nat) (e' : MapEntry), (es.toList.modify j fun e => { e with key := .int .i64 z, val := x })[k]? = some e' →
          (k = j ∧ e' = { e with key := .int .i64 z, val := x }) ∨ (k ≠ j ∧ es.toList[k]? = some e') := by
        intro k e' hk
        rw [List.getElem?_modify] at hk
        by_cases ek : j = k
        · subst ek
          rw [h3] at hk
          simp at hk
          exact .inl ⟨rfl, hk.symm⟩
        · simp only [ek, if_false] at hk
          exact .inr ⟨fun e => ek e.symm, by simpa using hk⟩
      have hkeys : (es.toList.modify j fun e => { e with key := .int .i64 z, val := x }).map (·.key) = es.toList.map (·.key) := by
        apply List.ext_getElem?
        intro k
        rw [List.getElem?_map, List.getElem?_map, List.getElem?_modify]
        by_cases ek : j = k
        · subst ek
          rw [h3]
          simp [h4]
        · simp [ek]
      have hborn : (es.toList.modify j fun e => { e with key := .int .i64 z, val := x }).map (·.born) = es.toList.map (·.born) := by
        apply List.ext_getElem?
        intro k
        rw [List.getElem?_map, List.getElem?_map, List.getElem?_modify]
        by_cases ek : j = k
        · subst ek
          rw [h3]
          simp
        · simp [ek]
      have huniq : ∀ k e', es.toList[k]? = some e' → e'.key = .int .i64 z → k = j := fun k e' hk hkey => by
        have hp := List.pairwise_iff_getElem.1 h.e3
        have hk' := (List.getElem?_eq_some_iff.1 hk)
        have hj' := (List.getElem?_eq_some_iff.1 h3)
        obtain ⟨lk, vk⟩ := hk'
        obtain ⟨lj, vj⟩ := hj'
        rcases Nat.lt_trichotomy k j with hlt | heq | hgt
        · exact absurd (by rw [vk, vj, hkey, h4]) (hp k j lk lj hlt)
        · exact heq
        · exact absurd (by rw [vk, vj, hkey, h4]) (hp j k lj lk hgt)
      refine ⟨fun e' he' => ?_, fun k y' hk => ?_, ?_, fun e' he' => ?_, by rw [hborn]; exact h.e5⟩
      · obtain ⟨k, hk⟩ := List.getElem?_of_mem he'
        rcases hget k e' hk with ⟨rfl, rfl⟩ | ⟨hne, hk'⟩
        · exact ⟨z, rfl, by simp [putI]⟩
        · obtain ⟨k', b, a⟩ := h.e1 e' (List.mem_of_getElem? hk')
          have : k' ≠ z := fun e0 => hne (huniq k e' hk' (by rw [b, e0]))
          exact ⟨k', b, by simp [putI, this, a]⟩
      · have : ∃ y0, c k = some y0 := by
          by_cases e0 : k = z
          · subst e0; exact ⟨_, h1⟩
          · simp only [putI, e0, if_false] at hk; exact ⟨y', hk⟩
        obtain ⟨y0, hy0⟩ := this
        obtain ⟨e', he', hk'⟩ := h.e2 k y0 hy0
        have hmem : (Value.int .i64 k) ∈ (es.toList.modify j fun e => { e with key := .int .i64 z, val := x }).map (·.key) := by
          rw [hkeys, ← hk']
          exact List.mem_map_of_mem he'
        obtain ⟨e2, he2, hk2⟩ := List.mem_map.1 hmem
        exact ⟨e2, he2, hk2⟩
      · have := List.pairwise_map (f := fun e : MapEntry => e.key) (R := (· ≠ ·)) (l := es.toList.modify j fun e => { e with key := .int .i64 z, val := x })
        rw [← this, hkeys, List.pairwise_map]
        exact h.e3
      · have hmem : e'.born ∈ (es.toList.modify j fun e => { e with key := .int .i64 z, val := x }).map (·.born) := List.mem_map_of_mem he'
        rw [hborn] at hmem
        obtain ⟨e2, he2, hb2⟩ := List.mem_map.1 hmem
        rw [← hb2]
        exact h.e4 e2 he2

end Go.Proofs.YtmnedhlgplkfhaaGreat

namespace Go.Proofs.YtmnedhlgplkfhaaGreat
open Go.RowKit
open Go.ChangeMaps (setBlock)
set_option linter.unusedVariables false

/-- Numbers that 64 bits hold. -/
def i64s (l : List Int) : Prop := ∀ z ∈ l, -9223372036854775808 ≤ z ∧ z < 9223372036854775808
/-- May they be a directory's? -/
def okP (l : List Int) : Bool := decide ((∀ z ∈ l, 0 ≤ z ∧ z < 65536) ∧ l.Nodup)
/-- What the map has counted behind the numbers l, which are unlike. -/
def cntF (l : List Int) : Int → Option Value := fun z => if z ∈ l then some (.int .i64 1) else none
theorem cnt_nil : (fun _ => none) = cntF [] := by funext z; simp [cntF]
theorem cnt_put (l : List Int) (z : Int) : putI (cntF l) z (.int .i64 1) = cntF (l ++ [z]) := by
  funext k
  unfold putI cntF
  by_cases h : k = z
  · subst h; simp
  · by_cases h2 : k ∈ l <;> simp [h, h2]
theorem zeroI (W : World) : (zeroValue 3).run Tryz.prog W = .ok (.int .i64 0) W := Tryz.zeroValue3 W
theorem u64_nat (p : Int) (h : -9223372036854775808 ≤ p ∧ p < 9223372036854775808) : ∃ U : Nat, IntKind.u64.wrap p = (U : Int) ∧ (U : Int) < 18446744073709551616 ∧ fitsB U 2 = decide (0 ≤ p ∧ p < 65536) ∧ (0 ≤ p → U = p.toNat) := by
  refine ⟨(p % 18446744073709551616).toNat, ?_, by omega, ?_, ?_⟩
  · rw [IntKind.wrap_u64]; omega
  · unfold fitsB
    rw [show 2 ^ (8 * wid 2) = 65536 from rfl, Bool.eq_iff_iff]
    simp only [decide_eq_true_eq]
    omega
  · intro h0; omega
theorem okP_snoc (l : List Int) (z : Int) : okP (l ++ [z]) = (okP l && (decide (0 ≤ z ∧ z < 65536) && !decide (z ∈ l))) := by
  unfold okP
  rw [Bool.eq_iff_iff]
  simp only [Bool.and_eq_true, decide_eq_true_eq, Bool.not_eq_true', decide_eq_false_iff_not, List.nodup_append, List.mem_append, List.mem_singleton]
  constructor
  · rintro ⟨h1, h2, _, h3⟩
    exact ⟨⟨fun x hx => h1 x (.inl hx), h2⟩, h1 z (.inr rfl), fun hm => h3 z hm z rfl rfl⟩
  · rintro ⟨⟨h1, h2⟩, h3, h4⟩
    refine ⟨fun x hx => ?_, h2, List.nodup_cons.2 ⟨by simp, List.nodup_nil⟩, fun a ha b hb => ?_⟩
    · rcases hx with hx | rfl
      · exact h1 x hx
      · exact h3
    · subst hb
      exact fun e => h4 (e ▸ ha)
theorem okP_take {l : List Int} (h : okP l = true) (k : Nat) : okP (l.take k) = true := by
  unfold okP at *
  simp only [decide_eq_true_eq] at *
  exact ⟨fun z hz => h.1 z (List.mem_of_mem_take hz), h.2.sublist (List.take_sublist k l)⟩
theorem okP_bad {l : List Int} {k : Nat} (hk : k < l.length) (h : okP (l.take k ++ [l[k]]) = false) : okP l = false := by
  cases he : okP l with
  | false => rfl
  | true =>
    have := okP_take he (k + 1)
    rw [List.take_succ_eq_append_getElem hk, h] at this
    cases this

set_option maxRecDepth 100000 in
set_option maxHeartbeats 800000 in
theorem mayBe_any (v : Value) (l : List Int) (B : Nat) (w : World) (hS : Sl (Value.int .i64) B w v l) (hl : l.length ≤ 255) (hr : i64s l) :
    Calls Tryz.prog 129 #[v] w fun e w' => e = .returned (.bool (okP l)) ∧ Kp none' w w' := by
  obtain ⟨a, c, rfl, _, _, ha⟩ := hS
  have hmm := @run_makeMap Tryz.prog
  have hka := Kp.alloc none' w (.map #[] 0)
  have hm0 : (w.alloc (.map #[] 0)).heap[w.heap.size]? = some (.map #[] 0) := heap_alloc_new w _
  obtain ⟨wa, Ha⟩ : ∃ wa, Hid (w.alloc (.map #[] 0) = wa) := ⟨_, rfl⟩
  rw [Ha.out] at hka hm0
  obtain ⟨g, HG⟩ : ∃ g, Hid (w.heap.size = g) := ⟨_, rfl⟩
  rw [HG.out] at hm0
  go_enter Tryz.func129, Tryz.ntmps129
  go_upto_region 2 with fail
  rw [Ha.out, HG.out]
  clear hmm
  go_wp2
  go_loopw [9] (fun t wr => ∃ (k : Nat) (es : Array MapEntry) (cl : Nat), k ≤ l.length ∧ t = .int .i64 k ∧ wr.heap[g]? = some (.map es cl) ∧ Mi (cntF (l.take k)) es.toList cl ∧ Hid (okP (l.take k) = true) ∧ Kp none' w wr) (fun t _ => l.length - (intOf t).toNat)
  case atStart => exact ⟨0, #[], 0, Nat.zero_le _, rfl, hm0, cnt_nil ▸ Mi.nil 0, by show _ = _; simp [okP], hka⟩
  case round =>
    obtain ⟨k, es, cl, hk, rfl, hm, hM, HO, hKr⟩ := hrel
    clear hm0 hka
    by_cases hlt : k < l.length
    · obtain ⟨b, off, rfl, _, hc⟩ := ha k hlt
      have hcc := hKr.cell hc (fun h => h)
      have hk' : (k : Int) < (l.length : Int) := by omega
      obtain ⟨U, hU, hU2, hU3, _⟩ := u64_nat l[k] (hr _ (List.getElem_mem hlt))
      have hlk := run_lookI (t := 165) (e := 3) Tryz.underlying165 zeroI hm hM l[k] false
      have HT : Hid (okP (l.take (k + 1)) = okP (l.take k ++ [l[k]])) := by show _ = _; rw [List.take_succ_eq_append_getElem hlt]
      have HB : Hid (okP (l.take k ++ [l[k]]) = false → okP l = false) := okP_bad hlt
      have hsn := okP_snoc (l.take k) l[k]
      rw [HO.out, Bool.true_and] at hsn
      obtain ⟨seen, HS⟩ : ∃ s, Hid (l.take k = s) := ⟨_, rfl⟩
      have HP : Hid (l.take (k + 1) = seen ++ [l[k]]) := by show _ = _; rw [List.take_succ_eq_append_getElem hlt, HS.out]
      rw [HS.out] at hlk hM hsn HB
      clear HT ha
      obtain ⟨p, hp⟩ : ∃ p, l[k] = p := ⟨_, rfl⟩
      rw [hp] at hcc hlk hsn hU hU3 HB HP
      by_cases hmem : p ∈ seen
      · have hc1 : cntF seen p = some (.int .i64 1) := by simp [cntF, hmem]
        obtain ⟨es', cl', hput, hM'⟩ := run_putI (t := 165) (e := 3) Tryz.underlying165 hm hM p (.int .i64 2)
        have hm' : (setBlock wr g (.map es' cl')).heap[g]? = some (.map es' cl') := by
          have := (Array.getElem?_eq_some_iff.1 hm).1
          unfold ChangeMaps.setBlock
          simp [this]
        have hlk2 := run_lookI (t := 165) (e := 3) Tryz.underlying165 zeroI hm' hM' p false
        simp only [hc1, putI, if_true, Option.getD_some, Bool.false_eq_true, if_false] at hlk hlk2
        have hkk : Kp none' w (setBlock wr g (.map es' cl')) := hKr.trans (Kp.setBlock (S := only g) wr g _ rfl) (fun _ _ h => h) (fun j hj h => absurd hj (by have := HG.out; unfold only at h; omega))
        have hbad : Hid (okP l = false) := HB.out (by rw [hsn]; simp [hmem])
        generalize hw2 : setBlock wr g (.map es' cl') = w2 at *
        cases hf : decide (0 ≤ p ∧ p < 65536)
        all_goals
          rw [hf] at hU3
          clear hsn hM hM' hm hm' hf hc1 hc
          go_wp2_with (go_at_call 136; refine (fits_any U 2 _ hU2).mono ?_; rintro e wx ⟨rfl, rfl⟩; rw [hU3])
          go_ret
          rw [hbad.out]
          exact ⟨rfl, hkk⟩
      · have hc1 : cntF seen p = none := by simp [cntF, hmem]
        obtain ⟨es', cl', hput, hM'⟩ := run_putI (t := 165) (e := 3) Tryz.underlying165 hm hM p (.int .i64 1)
        have hm' : (setBlock wr g (.map es' cl')).heap[g]? = some (.map es' cl') := by
          have := (Array.getElem?_eq_some_iff.1 hm).1
          unfold ChangeMaps.setBlock
          simp [this]
        have hlk2 := run_lookI (t := 165) (e := 3) Tryz.underlying165 zeroI hm' hM' p false
        rw [cnt_put] at hM'
        simp only [hc1, putI, if_true, Option.getD_some, Option.getD_none, Bool.false_eq_true, if_false] at hlk hlk2
        have hkk : Kp none' w (setBlock wr g (.map es' cl')) := hKr.trans (Kp.setBlock (S := only g) wr g _ rfl) (fun _ _ h => h) (fun j hj h => absurd hj (by have := HG.out; unfold only at h; omega))
        generalize hw2 : setBlock wr g (.map es' cl') = w2 at *
        cases hf : decide (0 ≤ p ∧ p < 65536)
        · have hbad : Hid (okP l = false) := HB.out (by rw [hsn, hf]; simp)
          rw [hf] at hU3
          clear hsn hM hM' hm hm' hf hc1 hc
          go_wp2_with (go_at_call 136; refine (fits_any U 2 _ hU2).mono ?_; rintro e wx ⟨rfl, rfl⟩; rw [hU3])
          go_ret
          rw [hbad.out]
          exact ⟨rfl, hkk⟩
        · have HO' : Hid (okP (l.take (k + 1)) = true) := by show _ = _; rw [HP.out, hsn, hf]; simp [hmem]
          rw [hf] at hU3
          rw [← HP.out] at hM'
          have HM : Hid (Mi (cntF (l.take (k + 1))) es'.toList cl') := hM'
          have HMM : Hid (w2.heap[g]? = some (.map es' cl')) := hm'
          clear hsn hM hM' hm hm' hf hc1 hc
          go_wp2_with (go_at_call 136; refine (fits_any U 2 _ hU2).mono ?_; rintro e wx ⟨rfl, rfl⟩; rw [hU3])
          go_roundw
          case rel => exact ⟨k + 1, es', cl', by omega, by go_num, HMM.out, HM.out, HO', hkk⟩
          case measure => simp [intOf]; omega
    · have HE : Hid (okP l = true) := by
        have := HO.out
        rw [List.take_of_length_le (by omega)] at this
        exact this
      go_wp2
      go_ret
      rw [HE.out]
      exact ⟨rfl, hKr⟩

end Go.Proofs.YtmnedhlgplkfhaaGreat

namespace Go.Proofs.YtmnedhlgplkfhaaGreat
open Go.RowKit
open Go.ChangeMaps (setBlock)
set_option linter.unusedVariables false

/-- Pages as bytes, a directory's bytes, the error, the sector that Write answers. -/
def pagesB (l : List Int) : List UInt8 := l.flatMap fun z => be z.toNat 2
def encP (l : List Int) : List UInt8 := be l.length 1 ++ pagesB l
def wE (l : List Int) : Int := if 31 < l.length then 3 else if okP l then 0 else 1
def wB (l : List Int) : List UInt8 := if wE l = 0 then whole (encP l) else []
theorem pagesB_len (l : List Int) : (pagesB l).length = 2 * l.length := by
  unfold pagesB
  rw [List.length_flatMap]
  simp [be_len]
  induction l with
  | nil => rfl
  | cons z l ih => simp; omega
theorem pagesB_snoc (l : List Int) (z : Int) : pagesB (l ++ [z]) = pagesB l ++ be z.toNat 2 := by simp [pagesB]
theorem pagesB_take (l : List Int) (k : Nat) (h : k < l.length) : pagesB (l.take (k + 1)) = pagesB (l.take k) ++ be l[k].toNat 2 := by
  rw [List.take_succ_eq_append_getElem h, pagesB_snoc]
theorem encP_len (l : List Int) : (encP l).length = 1 + 2 * l.length := by simp [encP, be_len, pagesB_len]
theorem okP_at {l : List Int} (h : okP l = true) (k : Nat) (hk : k < l.length) : ∃ q : Nat, l[k] = (q : Int) ∧ q < 65536 := by
  unfold okP at h
  simp only [decide_eq_true_eq] at h
  have := h.1 _ (List.getElem_mem hk)
  exact ⟨l[k].toNat, by omega, by omega⟩
/-- Own bytes that have grown: what was there ahead of them has not turned. -/
theorem Fr.kp {w0 w w' : World} {v v' : Value} {l : List UInt8} {e : TypeId} (h : Fr w v w' v') (ho : Own e w w0.heap.size v l) (hk : Kp none' w0 w) : Kp none' w0 w' :=
  hk.trans (Kp.ofGrown h.1 (S := fun k => v.ownBlock = some k) (fun k he _ => he)) (fun _ _ h => h) (fun k hk he => absurd hk (by have := (ho.lt k he).1; omega))

set_option maxRecDepth 100000 in
set_option maxHeartbeats 800000 in
theorem uwrite_any (v : Value) (l : List Int) (B : Nat) (w : World) (hS : Sl (Value.int .i64) B w v l) (hr : i64s l) :
    Calls Tryz.prog 115 #[v] w fun e w' => e = .returned (.tuple #[.string ⟨(wB l).toArray⟩, .int .i64 (wE l)]) ∧ Kp none' w w' := by
  have hS' := hS
  obtain ⟨a, c, rfl, hlc, hcm, ha⟩ := hS'
  unfold maxLen at hcm
  by_cases hl : 31 < l.length
  · have hE : wE l = 3 := by simp [wE, hl]
    have hB : wB l = [] := by simp [wB, hE]
    rw [hE, hB]
    have hli : 31 < (l.length : Int) := by omega
    clear ha hS hE hB
    go_enter Tryz.func115, Tryz.ntmps115
    go_wp2
    go_ret2
    exact ⟨rfl, Kp.refl _ _⟩
  · have hli : ¬ 31 < (l.length : Int) := by omega
    by_cases hO : okP l = true
    · have hE : wE l = 0 := by simp [wE, hl, hO]
      have hB : wB l = whole (encP l) := by simp [wB, hE]
      rw [hE, hB]
      clear hE hB
      have hl255 : (l.length : Int) < 18446744073709551616 := by omega
      go_enter Tryz.func115, Tryz.ntmps115
      go_upto_region 6 with (first
        | (go_at_call 129; refine (mayBe_any _ l B _ hS (by omega) hr).mono ?_; rintro e wb ⟨rfl, hkb⟩; rw [hO])
        | (go_at_call 130; refine (num_any (.slice none 0 0) [] l.length 1 w.heap.size _ hl255 (Own.nil _ _ _) hkb.size (by simp)).mono ?_; rintro e wc ⟨vc, rfl, hOc, hFc⟩)
        | fail)
      have hkc : Kp none' w wc := hFc.kp (Own.nil 5 wb w.heap.size) hkb
      rw [show [] ++ be l.length (wid 1) = be l.length 1 from rfl] at hOc
      clear hkb hFc
      go_wp2
      go_loopw [4, 19] (fun b t wr => ∃ k : Nat, k ≤ l.length ∧ t = .int .i64 k ∧ Own 5 wr w.heap.size b (be l.length 1 ++ pagesB (l.take k)) ∧ Kp none' w wr) (fun _ t _ => l.length - (intOf t).toNat)
      case atStart => exact ⟨0, Nat.zero_le _, rfl, by simpa [pagesB] using hOc, hkc⟩
      case round =>
        obtain ⟨k, hk, rfl, hOr, hKr⟩ := hrel
        clear hOc hkc
        by_cases hlt : k < l.length
        · obtain ⟨b, off, rfl, _, hc⟩ := ha k hlt
          have hcc := hKr.cell hc (fun h => h)
          obtain ⟨q, hq, hq6⟩ := okP_at hO k hlt
          have HT : Hid ((be l.length 1 ++ pagesB (l.take k)) ++ be q (wid 2) = be l.length 1 ++ pagesB (l.take (k + 1))) := by
            show _ = _
            rw [pagesB_take l k hlt, hq, List.append_assoc]
            rfl
          have hln : (be l.length 1 ++ pagesB (l.take k)).length ≤ 140737488355300 := by rw [List.length_append, be_len, pagesB_len, List.length_take]; omega
          rw [hq] at hcc
          have hk' : (k : Int) < (l.length : Int) := by omega
          have hq1 : (q : Int) < 65536 := by omega
          have hq2 : (q : Int) < 18446744073709551616 := by omega
          clear ha hc
          go_wp2_with (go_at_call 130; refine (num_any _ _ q 2 w.heap.size _ hq2 hOr hKr.size hln).mono ?_; rintro e wd ⟨vd, rfl, hOd, hFd⟩)
          go_roundw
          case rel => exact ⟨k + 1, by omega, by go_num, HT.out ▸ hOd, hFd.kp hOr hKr⟩
          case measure => simp [intOf]; omega
        · have HT : Hid (be l.length 1 ++ pagesB (l.take k) = encP l) := by
            show _ = _
            rw [List.take_of_length_le (by omega)]
            rfl
          go_wp2_with (go_at_call 121; refine (filled_any _ _ _ _ hOr).mono ?_; rintro e wd ⟨rfl, hkd⟩)
          go_ret2
          rw [HT.out]
          exact ⟨rfl, hKr.then hkd⟩
    · have hO' : okP l = false := by simpa using hO
      have hE : wE l = 1 := by simp [wE, hl, hO']
      have hB : wB l = [] := by simp [wB, hE]
      rw [hE, hB]
      clear ha hE hB
      go_enter Tryz.func115, Tryz.ntmps115
      go_wp2_with (go_at_call 129; refine (mayBe_any _ l B _ hS (by omega) hr).mono ?_; rintro e wb ⟨rfl, hkb⟩; rw [hO'])
      go_ret2
      exact ⟨rfl, hkb⟩

end Go.Proofs.YtmnedhlgplkfhaaGreat

namespace Go.Proofs.YtmnedhlgplkfhaaGreat
open Go.RowKit
open Go.ChangeMaps (setBlock)
set_option linter.unusedVariables false

/-- Numbers of two bytes each, read one behind the other, and the error behind them. -/
def rdN : Nat → ByteArray → Int → List Int
  | 0, _, _ => []
  | n + 1, s, e => (val (rawR s e 2).data.toList : Int) :: rdN n (rawS s e 2) (rawE s e 2)
def rdE : Nat → ByteArray → Int → Int
  | 0, _, e => e
  | n + 1, s, e => rdE n (rawS s e 2) (rawE s e 2)
def cnt (s : ByteArray) : Nat := val (rawR s 0 1).data.toList
/-- The pages that bytes name, whether they are a directory's, what Read answers. -/
def pgs (s : ByteArray) : List Int := rdN (cnt s) (rawS s 0 1) (rawE s 0 1)
def rOk (s : ByteArray) : Bool := decide (wE (pgs s) = 0 ∧ wB (pgs s) = s.data.toList)
def rL (s : ByteArray) : List Int := if rOk s then pgs s else []
def rE (s : ByteArray) : Int := if rOk s then 0 else 10
theorem val_raw (s : ByteArray) (e : Int) (k : Nat) : val (rawR s e k).data.toList < 256 ^ k := by
  have h1 := val_lt (rawR s e k).data.toList
  have h2 : (rawR s e k).data.toList.length ≤ k := by
    rw [Array.length_toList]
    have := rawR_size s e k
    show (rawR s e k).size ≤ k
    omega
  exact Nat.lt_of_lt_of_le h1 (Nat.pow_le_pow_right (by omega) h2)
theorem cnt_lt (s : ByteArray) : cnt s < 256 := val_raw s 0 1
theorem val2_lt (s : ByteArray) (e : Int) : val (rawR s e 2).data.toList < 65536 := val_raw s e 2
theorem rawS_size (s : ByteArray) (e k : Int) : (rawS s e k).size ≤ s.size := by
  unfold rawS
  split
  · exact Nat.le_refl _
  · rw [ByteArray.size_extract]; omega
theorem rdN_len : ∀ (n : Nat) (s : ByteArray) (e : Int), (rdN n s e).length = n
  | 0, _, _ => rfl
  | n + 1, s, e => by simp [rdN, rdN_len n]
theorem rdN_i64 : ∀ (n : Nat) (s : ByteArray) (e : Int), i64s (rdN n s e)
  | 0, _, _ => fun z hz => by simp [rdN] at hz
  | n + 1, s, e => fun z hz => by
    rcases List.mem_cons.1 hz with rfl | hz
    · have := val2_lt s e; omega
    · exact rdN_i64 n _ _ z hz
theorem pgs_i64 (s : ByteArray) : i64s (pgs s) := rdN_i64 _ _ _
theorem pgs_len (s : ByteArray) : (pgs s).length = cnt s := rdN_len _ _ _
theorem rnum1_any (b : Nat) (s : ByteArray) (e : Int) (w : World) (h : Rd w b s e) (hs : s.size ≤ maxLen) :
    Calls Tryz.prog 126 #[.pointer (some ⟨b, 0, none⟩), .int .i64 1] w fun y w' => y = .returned (.int .u64 (val (rawR s e 1).data.toList)) ∧ Rd w' b (rawS s e 1) (rawE s e 1) ∧ w.grownBy w' (some b) := rnum_any b s e 1 w h hs
theorem rnum2_any (b : Nat) (s : ByteArray) (e : Int) (w : World) (h : Rd w b s e) (hs : s.size ≤ maxLen) :
    Calls Tryz.prog 126 #[.pointer (some ⟨b, 0, none⟩), .int .i64 2] w fun y w' => y = .returned (.int .u64 (val (rawR s e 2).data.toList)) ∧ Rd w' b (rawS s e 2) (rawE s e 2) ∧ w.grownBy w' (some b) := rnum_any b s e 2 w h hs
theorem Ow.cellAt {α : Type} {f : α → Value} {e : TypeId} {w : World} {base g n cap : Nat} {l : List α} (h : Ow f e w base (.slice (some ⟨g, 0, none⟩) n cap) l) (j : Nat) (hj : j < l.length) : w.cell? ⟨g, j, none⟩ = some (f l[j]) ∧ w.frozen? ⟨g, j, none⟩ = false := by
  have hn : n = l.length := by
    rcases h.2 with ⟨h1, _⟩ | ⟨g', cap', cur, h1, _⟩
    · cases h1
    · cases h1; rfl
  subst hn
  refine ⟨?_, World.ownsRow.frozenAt (g := g) (cap := cap) h j⟩
  rw [World.ownsRow.cellAt (g := g) (cap := cap) h j (by omega)]
  simp [hj]
theorem Ow.mono {α : Type} {f : α → Value} {e : TypeId} {w : World} {base base' : Nat} {v : Value} {l : List α} (h : Ow f e w base v l) (hb : base' ≤ base) : Ow f e w base' v l := by
  refine ⟨h.1, ?_⟩
  rcases h.2 with hn | ⟨g, cap, cur, rfl, hb2, rest⟩
  · exact .inl hn
  · exact .inr ⟨g, cap, cur, rfl, by omega, rest⟩
/-- make([]int, n). -/
theorem make_ints (w : World) (n : Nat) (hn : n ≤ 1000000) : ∃ wa, (Instr.makeSlice 41 (.int .i64 n) (.int .i64 n)).run Tryz.prog w = .ok (.slice (some ⟨w.heap.size, 0, none⟩) n n) wa ∧ Ow (Value.int .i64) 3 wa w.heap.size (.slice (some ⟨w.heap.size, 0, none⟩) n n) (List.replicate n 0) ∧ Kp none' w wa := by
  obtain ⟨i0, hi, hz0, hz1, hz2⟩ := info_parts infoI
  obtain ⟨wa, hmk, hOa, hga⟩ := run_make_full (P := Tryz.prog) w w.heap.size 41 3 i0 _ 1 Tryz.underlying41 hi hz0 hz1 .i64 .i64 n (by rw [hz2]; omega) (by unfold maxLen; omega) (Nat.le_refl _)
  refine ⟨wa, hmk, ?_, Kp.ofN hga _⟩
  have e : (madeCells (Value.int .i64 0).cells (n * 1)).toList = (List.replicate n (0 : Int)).map (Value.int .i64) := by
    show (madeCells #[Value.int .i64 0] (n * 1)).toList = _
    rw [toList_madeCells_one]
    simp
  unfold Ow
  rw [List.length_replicate, ← e]
  exact hOa

theorem set_next (pre : List Int) (m : Nat) (x : Int) : (pre ++ List.replicate (m + 1) 0).set pre.length x = (pre ++ [x]) ++ List.replicate m 0 := by
  rw [List.set_append_right _ _ (Nat.le_refl _), Nat.sub_self, List.replicate_succ, List.set_cons_zero, List.append_assoc]
  rfl

set_option maxRecDepth 100000 in
set_option maxHeartbeats 800000 in
theorem uread_any (s : ByteArray) (w : World) (hs : s.size ≤ maxLen) :
    Calls Tryz.prog 104 #[.string s] w fun e w' => ∃ v, e = .returned (.tuple #[v, .int .i64 (rE s)]) ∧ Ow (Value.int .i64) 3 w' w.heap.size v (rL s) ∧ Kp none' w w' := by
  have hR0 := Rd.new w s 0
  have hk0 := Kp.alloc none' w (.cells #[.string s, .int .i64 0] 164)
  obtain ⟨w0, H0⟩ : ∃ w0, Hid (w.alloc (.cells #[.string s, .int .i64 0] 164) = w0) := ⟨_, rfl⟩
  rw [H0.out] at hR0 hk0
  obtain ⟨rb, Hrb⟩ : ∃ rb, Hid (w.heap.size = rb) := ⟨_, rfl⟩
  rw [Hrb.out] at hR0
  obtain ⟨N, HN⟩ : ∃ N, Hid (cnt s = N) := ⟨_, rfl⟩
  have hN256 : N < 256 := by rw [← HN.out]; exact cnt_lt s
  obtain ⟨s1, Hs1⟩ : ∃ s1, Hid (rawS s 0 1 = s1) := ⟨_, rfl⟩
  obtain ⟨e1, He1⟩ : ∃ e1, Hid (rawE s 0 1 = e1) := ⟨_, rfl⟩
  have HP : Hid (pgs s = rdN N s1 e1) := by show _ = _; rw [← HN.out, ← Hs1.out, ← He1.out]; rfl
  have Hs1m : Hid (s1.size ≤ maxLen) := by show _ ≤ _; rw [← Hs1.out]; exact Nat.le_trans (rawS_size s 0 1) hs
  have HC : Hid (((val (rawR s 0 1).data.toList : Nat) : Int) = (N : Int)) := by show _ = _; rw [← HN.out]; rfl
  go_enter Tryz.func104, Tryz.ntmps104
  go_upto_region 2 with (go_at_call 125; refine (from_any _ _).mono ?_; rintro e w1 ⟨rfl, rfl⟩)
  rw [H0.out, Hrb.out]
  go_upto_region 3 with (first
    | (go_at_call 126; refine (rnum1_any rb s 0 _ hR0 hs).mono ?_; rintro e w2 ⟨rfl, hR2, hg2⟩; rw [HC.out]; rw [Hs1.out, He1.out] at hR2; obtain ⟨w3, hmk, hO3, hk3⟩ := make_ints w2 N (by omega))
    | (refine wpList_make_at rfl (.tmp 13) (.tmp 13) 41 rfl _ _ rfl rfl hmk ?_)
    | fail)
  have hk2 : Kp none' w w2 := hk0.trans (Kp.ofGrown hg2 (S := only rb) (fun k he _ => by cases he; rfl)) (fun _ _ h => h) (fun k hk he => absurd hk (by have := Hrb.out; unfold only at he; omega))
  have hlt2 := hR2.lt
  have hR3 := hR2.kept hk3.grown (by simp)
  have hk33 := hk2.then hk3
  clear hmk hR2 hk2 hg2 hR0 hk0 hk3
  generalize hgg : w2.heap.size = g at *
  go_wp2
  go_loopw [17] (fun t wr => ∃ (k : Nat) (pre : List Int) (q : ByteArray) (e : Int), k ≤ N ∧ t = .int .i64 k ∧ Hid (pre.length = k ∧ pre ++ rdN (N - k) q e = rdN N s1 e1 ∧ q.size ≤ maxLen) ∧ Ow (Value.int .i64) 3 wr g (.slice (some ⟨g, 0, none⟩) N N) (pre ++ List.replicate (N - k) 0) ∧ Rd wr rb q e ∧ Kp none' w wr) (fun t _ => N - (intOf t).toNat)
  case atStart => exact ⟨0, [], s1, e1, Nat.zero_le _, rfl, ⟨rfl, rfl, Hs1m.out⟩, hO3, hR3, hk33⟩
  case round =>
    obtain ⟨k, pre, q, e, hk, rfl, HI, hO, hR, hK⟩ := hrel
    clear hO3 hR3 hk33
    by_cases hlt : k < N
    · have hki : (k : Int) < (N : Int) := by omega
      obtain ⟨m, hm⟩ : ∃ m, N - k = m + 1 := ⟨N - k - 1, by omega⟩
      have Hm : Hid (N - (k + 1) = m) := by show _ = _; omega
      rw [hm] at hO
      obtain ⟨x, Hx⟩ : ∃ x, Hid (val (rawR q e 2).data.toList = x) := ⟨_, rfl⟩
      have hx6 : (x : Int) < 65536 := by have := val2_lt q e; rw [Hx.out] at this; omega
      have Hq2 : Hid ((rawS q e 2).size ≤ maxLen) := Nat.le_trans (rawS_size q e 2) HI.out.2.2
      have HI2 : Hid ((pre ++ [(x : Int)]).length = k + 1 ∧ (pre ++ [(x : Int)]) ++ rdN m (rawS q e 2) (rawE q e 2) = rdN N s1 e1) := by
        have h := HI.out
        rw [hm] at h
        refine ⟨by simp [h.1], ?_⟩
        rw [← h.2.1, ← Hx.out]
        simp [rdN]
      have Hl : Hid (pre.length = k) := HI.out.1
      have hne : g ≠ rb := by omega
      clear hm
      go_wp2_with (go_at_call 126; refine (rnum2_any rb q e _ hR HI.out.2.2).mono ?_; rintro e4 w4 ⟨rfl, hR4, hg4⟩; rw [Hx.out]; have hO4 := hO.kept (Kp.ofGrown hg4 (S := only rb) (fun k he _ => by cases he; rfl)) (fun z hz => by cases hz; exact hne); have hcl := hO4.cellAt k (by have := Hl.out; simp; omega); have hc1 := hcl.1; have hc2 := hcl.2)
      go_roundw
      case rel =>
        have hst := hO4.stored k (x : Int)
        have hK4 : Kp none' w w4 := hK.trans (Kp.ofGrown hg4 (S := only rb) (fun k he _ => by cases he; rfl)) (fun _ _ h => h) (fun k hk he => absurd hk (by have := Hrb.out; unfold only at he; omega))
        refine ⟨k + 1, pre ++ [(x : Int)], rawS q e 2, rawE q e 2, by omega, by go_num, ⟨HI2.out.1, by rw [Hm.out]; exact HI2.out.2, Hq2.out⟩, ?_, hR4.kept hst.2 (by simp; omega), hK4.trans (Kp.ofGrown hst.2 (S := only g) (fun k he _ => by cases he; rfl)) (fun _ _ h => h) (fun k hk he => absurd hk (by have := Hrb.out; unfold only at he; omega))⟩
        rw [Hm.out, ← set_next, Hl.out]
        exact hst.1
      case measure => simp [intOf]; omega
    · obtain rfl : k = N := by omega
      have hpre : pre = pgs s := by
        have h := HI.out.2.1
        rw [Nat.sub_self] at h
        simp only [rdN, List.append_nil] at h
        rw [h, HP.out]
      rw [Nat.sub_self, List.replicate_zero, List.append_nil, hpre] at hO
      have hlen : (pgs s).length = k := by rw [pgs_len, HN.out]
      obtain ⟨X, HX⟩ : ∃ X : ByteArray, Hid (⟨(wB (pgs s)).toArray⟩ = X) := ⟨_, rfl⟩
      have hXs : (X.data.toList = s.data.toList) ↔ wB (pgs s) = s.data.toList := by rw [← HX.out]
      obtain ⟨E, HE⟩ : ∃ E, Hid (wE (pgs s) = E) := ⟨_, rfl⟩
      go_upto_region 9 with (go_at_call 115; refine (uwrite_any _ _ _ _ hO.sl (pgs_i64 s)).mono ?_; rintro e5 w5 ⟨rfl, hk5⟩; rw [HX.out, HE.out])
      have HO := hide hO
      clear hO
      by_cases h0 : E = 0
      · subst h0
        by_cases hx : X.toList = s.toList
        · have hx' : (X.toList == s.toList) = true := by simpa using hx
          have HR : Hid (rE s = 0 ∧ rL s = pgs s) := by
            have : rOk s = true := by
              unfold rOk
              rw [HE.out]
              have := hXs.1 (by rw [← ByteArray.toList_eq, ← ByteArray.toList_eq]; exact hx)
              simp [this]
            exact ⟨by simp [rE, this], by simp [rL, this]⟩
          clear hx hXs
          go_wp2
          go_ret2
          rw [HR.out.1, HR.out.2]
          exact ⟨_, rfl, (HO.out.keptN hk5).mono (by have := Hrb.out; omega), hK.then hk5⟩
        · have hx' : (X.toList == s.toList) = false := by simpa using hx
          have HR : Hid (rE s = 10 ∧ rL s = []) := by
            have : rOk s = false := by
              unfold rOk
              rw [decide_eq_false_iff_not]
              rintro ⟨_, h⟩
              apply hx
              rw [ByteArray.toList_eq, ByteArray.toList_eq]
              exact hXs.2 h
            exact ⟨by simp [rE, this], by simp [rL, this]⟩
          clear hx hXs
          go_wp2
          go_ret2
          rw [HR.out.1, HR.out.2]
          exact ⟨_, rfl, Ow.nil _ _ _ _, hK.then hk5⟩
      · have hE0 : (E != 0) = true := by simpa using h0
        have HR : Hid (rE s = 10 ∧ rL s = []) := by
          have : rOk s = false := by unfold rOk; rw [HE.out]; simp [h0]
          exact ⟨by simp [rE, this], by simp [rL, this]⟩
        go_wp2
        go_ret2
        rw [HR.out.1, HR.out.2]
        exact ⟨_, rfl, Ow.nil _ _ _ _, hK.then hk5⟩

end Go.Proofs.YtmnedhlgplkfhaaGreat

namespace Go.Proofs.YtmnedhlgplkfhaaGreat
open Go.RowKit
open Go.ChangeMaps (setBlock)
set_option linter.unusedVariables false

def lvL : List Int := [3, 258]
def lvS : ByteArray := ⟨#[2, 0, 3, 1, 2]⟩
def lvW : ByteArray := ⟨(whole lvS.data.toList).toArray⟩
theorem lv_wE : wE lvL = 0 := by kernel_rfl
theorem lv_wB : (⟨(wB lvL).toArray⟩ : ByteArray) = lvW := by kernel_rfl
theorem lv_rE : rE lvW = 0 := by kernel_rfl
theorem lv_rL : rL lvW = lvL := by kernel_rfl
theorem lv_mk : saysB ⟨(markL true).toArray⟩ = true := by kernel_rfl
theorem lv_size : lvW.size = 64 := by kernel_rfl
theorem sl_two (w : World) (x y : Int) : Sl (Value.int .i64) (w.heap.size + 1) (w.alloc (.cells #[.int .i64 x, .int .i64 y] 3)) (.slice (some ⟨w.heap.size, 0, none⟩) 2 2) [x, y] := by
  refine ⟨_, 2, rfl, by simp, by unfold maxLen; omega, fun i hi => ⟨w.heap.size, 0, rfl, Nat.lt_succ_self _, ?_⟩⟩
  rw [cell_of_row _ _ _ _ _ _ (heap_alloc_last w _)]
  match i, hi with
  | 0, _ => rfl
  | 1, _ => rfl

theorem place00 (w : World) : Calls Tryz.prog 70 #[.int .i64 0, .int .i64 0] w fun e w' => e = .returned (.int .i64 126) ∧ w' = w := by
  have h := place_any 0 0 w
  rw [show wrap64 (126 + 4 * 0 + 0) = 126 by unfold wrap64; omega] at h
  exact h
end Go.Proofs.YtmnedhlgplkfhaaGreat

namespace Go.Proofs.YtmnedhlgplkfhaaGreat
open Go

theorem wE_ok {l : List Int} (h : wE l = 0) : l.length ≤ 31 ∧ okP l = true := by
  unfold wE at h
  split at h
  · cases h
  · split at h
    · rename_i h1 h2; exact ⟨by omega, h2⟩
    · cases h
theorem wB_len (l : List Int) : (wB l).length ≤ 64 := by
  unfold wB
  split
  · rw [whole_len]; omega
  · simp
theorem wB_ok {l : List Int} (h : wE l = 0) : wB l = encP l ++ noughts.drop (encP l).length := by
  unfold wB
  rw [if_pos h]
  exact whole_short _ (by rw [encP_len]; have := (wE_ok h).1; omega)
theorem rd_pages : ∀ (l : List Int) (z : List UInt8), (∀ x ∈ l, 0 ≤ x ∧ x < 65536) → rdN l.length (mkB (pagesB l ++ z)) 0 = l
  | [], _, _ => rfl
  | x :: l, z, h => by
    have hx := h x (by simp)
    have e : pagesB (x :: l) ++ z = be x.toNat 2 ++ (pagesB l ++ z) := by simp [pagesB]
    have hr := raw_app (be x.toNat 2) (pagesB l ++ z)
    rw [be_len] at hr
    obtain ⟨h1, h2, h3⟩ := hr
    have h1' : rawR (mkB (be x.toNat 2 ++ (pagesB l ++ z))) 0 2 = mkB (be x.toNat 2) := h1
    have h2' : rawS (mkB (be x.toNat 2 ++ (pagesB l ++ z))) 0 2 = mkB (pagesB l ++ z) := h2
    have h3' : rawE (mkB (be x.toNat 2 ++ (pagesB l ++ z))) 0 2 = 0 := h3
    rw [List.length_cons, rdN, e, h1', h2', h3', rd_pages l z (fun y hy => h y (by simp [hy])), mkB_list, val_be]
    congr 1
    have : x.toNat % 2 ^ (8 * 2) = x.toNat := Nat.mod_eq_of_lt (by omega)
    rw [this]
    omega
theorem back_pgs {l : List Int} (h : wE l = 0) : pgs ⟨(wB l).toArray⟩ = l := by
  have ho := wE_ok h
  show pgs (mkB (wB l)) = l
  rw [wB_ok h]
  generalize noughts.drop (encP l).length = z
  unfold encP
  rw [List.append_assoc]
  have hr := raw_app (be l.length 1) (pagesB l ++ z)
  rw [be_len] at hr
  obtain ⟨h1, h2, h3⟩ := hr
  have h1' : rawR (mkB (be l.length 1 ++ (pagesB l ++ z))) 0 1 = mkB (be l.length 1) := h1
  have h2' : rawS (mkB (be l.length 1 ++ (pagesB l ++ z))) 0 1 = mkB (pagesB l ++ z) := h2
  have h3' : rawE (mkB (be l.length 1 ++ (pagesB l ++ z))) 0 1 = 0 := h3
  unfold pgs cnt
  rw [h1', h2', h3', mkB_list, val_be]
  have e : l.length % 2 ^ (8 * 1) = l.length := Nat.mod_eq_of_lt (by omega)
  rw [e]
  have hp := ho.2
  unfold okP at hp
  simp only [decide_eq_true_eq] at hp
  exact rd_pages l z hp.1
theorem back_read {l : List Int} (h : wE l = 0) : rE ⟨(wB l).toArray⟩ = 0 ∧ rL ⟨(wB l).toArray⟩ = l := by
  have hp := back_pgs h
  have ho : rOk ⟨(wB l).toArray⟩ = true := by unfold rOk; rw [hp]; simp [h]
  exact ⟨by simp [rE, ho], by simp [rL, ho, hp]⟩
theorem read_ok {s : ByteArray} (h : rE s = 0) : wE (rL s) = 0 ∧ wB (rL s) = s.data.toList ∧ rL s = pgs s := by
  have ho : rOk s = true := by
    cases e : rOk s with
    | true => rfl
    | false => unfold rE at h; rw [e] at h; cases h
  have hl : rL s = pgs s := by simp [rL, ho]
  unfold rOk at ho
  simp only [decide_eq_true_eq] at ho
  rw [hl]
  exact ⟨ho.1, ho.2, rfl⟩
theorem rE_bad {s : ByteArray} (h : rE s ≠ 0) : rE s = 10 ∧ rL s = [] := by
  have ho : rOk s = false := by
    cases e : rOk s with
    | false => rfl
    | true => exact absurd (by simp [rE, e]) h
  exact ⟨by simp [rE, ho], by simp [rL, ho]⟩
theorem rL_i64 (s : ByteArray) : i64s (rL s) := by
  unfold rL
  split
  · exact pgs_i64 s
  · intro z hz; simp at hz
theorem rL_len (s : ByteArray) : (rL s).length ≤ 255 := by
  unfold rL
  split
  · rw [pgs_len]; have := cnt_lt s; omega
  · simp
/-- Enough bytes are read without an error. -/
theorem rdE_ok : ∀ (n : Nat) (s : ByteArray), 2 * n ≤ s.size → rdE n s 0 = 0
  | 0, _, _ => rfl
  | n + 1, s, h => by
    have h1 : rawE s 0 2 = 0 := by unfold rawE; simp; omega
    have h2 : (rawS s 0 2).size = s.size - 2 := by
      unfold rawS
      rw [if_neg (by omega), ByteArray.size_extract]
      show min s.size s.size - 2 = _
      omega
    rw [rdE, h1]
    exact rdE_ok n _ (by omega)
theorem rdE_stays : ∀ (n : Nat) (s : ByteArray) (e : Int), e ≠ 0 → rdE n s e = e
  | 0, _, _, _ => rfl
  | n + 1, s, e, h => by
    have h1 : rawE s e 2 = e := by unfold rawE; simp [h]
    rw [rdE, h1]
    exact rdE_stays n _ e h
theorem ok_well {s : ByteArray} (h : rOk s = true) : rdE (cnt s) (rawS s 0 1) (rawE s 0 1) = 0 := by
  unfold rOk at h
  simp only [decide_eq_true_eq] at h
  have hl := (wE_ok h.1).1
  rw [pgs_len] at hl
  have hs : s.size = 64 := by
    have h2 := congrArg List.length h.2
    unfold wB at h2
    rw [if_pos h.1, whole_len, Array.length_toList] at h2
    exact h2.symm
  have h1 : rawE s 0 1 = 0 := by unfold rawE; simp; omega
  have h2 : (rawS s 0 1).size = s.size - 1 := by
    unfold rawS
    rw [if_neg (by omega), ByteArray.size_extract]
    show min s.size s.size - 1 = _
    omega
  rw [h1]
  exact rdE_ok _ _ (by omega)

end Go.Proofs.YtmnedhlgplkfhaaGreat

namespace Go.Proofs.YtmnedhlgplkfhaaGreat
open Go.RowKit
set_option linter.unusedVariables false

/-- A page's sectors. -/
def cutAt (s : ByteArray) (j : Nat) : ByteArray := s.extract (j * 64) ((j + 1) * 64)
def cuts (s : ByteArray) (n : Nat) : List ByteArray := (List.range n).map (cutAt s)
theorem cuts_len (s : ByteArray) (n : Nat) : (cuts s n).length = n := by simp [cuts]
theorem cuts_succ (s : ByteArray) (n : Nat) : cuts s (n + 1) = cuts s n ++ [cutAt s n] := by simp [cuts, List.range_succ]
def cutE (s : ByteArray) : Int := if s.size = 256 then 0 else 1
def cutL (s : ByteArray) : List ByteArray := if s.size = 256 then cuts s 4 else []
theorem infoStr : (Tryz.prog.info? 9).map (fun i => (i.zero, i.size, i.bytes)) = some (some (.string ByteArray.empty), 1, 16) := by kernel_rfl
/-- make([]string, n). -/
theorem make_strs (w : World) (n : Nat) (hn : n ≤ 1000000) : ∃ wa, (Instr.makeSlice 43 (.int .i64 n) (.int .i64 n)).run Tryz.prog w = .ok (.slice (some ⟨w.heap.size, 0, none⟩) n n) wa ∧ Ow Value.string 9 wa w.heap.size (.slice (some ⟨w.heap.size, 0, none⟩) n n) (List.replicate n ByteArray.empty) ∧ Kp none' w wa := by
  obtain ⟨i0, hi, hz0, hz1, hz2⟩ := info_parts infoStr
  obtain ⟨wa, hmk, hOa, hga⟩ := run_make_full (P := Tryz.prog) w w.heap.size 43 9 i0 _ 1 Tryz.underlying43 hi hz0 hz1 .i64 .i64 n (by rw [hz2]; omega) (by unfold maxLen; omega) (Nat.le_refl _)
  refine ⟨wa, hmk, ?_, Kp.ofN hga _⟩
  have e : (madeCells (Value.string ByteArray.empty).cells (n * 1)).toList = (List.replicate n ByteArray.empty).map Value.string := by
    show (madeCells #[Value.string ByteArray.empty] (n * 1)).toList = _
    rw [toList_madeCells_one]
    simp
  unfold Ow
  rw [List.length_replicate, ← e]
  exact hOa
theorem set_nextS (pre : List ByteArray) (m : Nat) (x : ByteArray) : (pre ++ List.replicate (m + 1) ByteArray.empty).set pre.length x = (pre ++ [x]) ++ List.replicate m ByteArray.empty := by
  rw [List.set_append_right _ _ (Nat.le_refl _), Nat.sub_self, List.replicate_succ, List.set_cons_zero, List.append_assoc]
  rfl

set_option maxRecDepth 100000 in
set_option maxHeartbeats 800000 in
theorem cut_any (s : ByteArray) (w : World) (hs : s.size ≤ maxLen) :
    Calls Tryz.prog 133 #[.string s] w fun e w' => ∃ v, e = .returned (.tuple #[v, .int .i64 (cutE s)]) ∧ Ow Value.string 9 w' w.heap.size v (cutL s) ∧ Kp none' w w' := by
  unfold maxLen at hs
  by_cases h : s.size = 256
  · have hE : cutE s = 0 := by simp [cutE, h]
    have hL : cutL s = cuts s 4 := by simp [cutL, h]
    rw [hE, hL]
    clear hE hL
    have hne : ((s.size : Int) != 256) = false := by simp [h]
    obtain ⟨wa, hmk, hO, hka⟩ := make_strs w 4 (by omega)
    rw [show ((4 : Nat) : Int) = 4 from rfl] at hmk
    obtain ⟨g, HG⟩ : ∃ g, Hid (w.heap.size = g) := ⟨_, rfl⟩
    rw [HG.out] at hmk hO
    go_enter Tryz.func133, Tryz.ntmps133
    go_upto_region 4 with (refine wpList_make_at rfl (.const (.int .i64 4)) (.const (.int .i64 4)) 43 rfl _ _ rfl rfl hmk ?_)
    clear hmk
    go_wp2
    go_loopw [12] (fun t wr => ∃ k : Nat, k ≤ 4 ∧ t = .int .i64 k ∧ Ow Value.string 9 wr g (.slice (some ⟨g, 0, none⟩) 4 4) (cuts s k ++ List.replicate (4 - k) ByteArray.empty) ∧ Kp none' w wr) (fun t _ => 4 - (intOf t).toNat)
    case atStart => exact ⟨0, Nat.zero_le _, rfl, hO, hka⟩
    case round =>
      obtain ⟨k, hk, rfl, hO, hK⟩ := hrel
      by_cases hlt : k < 4
      · have hki : (k : Int) < 4 := by omega
        obtain ⟨m, hm⟩ : ∃ m, 4 - k = m + 1 := ⟨4 - k - 1, by omega⟩
        have Hm : Hid (4 - (k + 1) = m) := by show _ = _; omega
        rw [hm] at hO
        have hcl := hO.cellAt k (by rw [List.length_append, cuts_len, List.length_replicate]; omega)
        have hc1 := hcl.1
        have hc2 := hcl.2
        have hst := hO.stored k (cutAt s k)
        have e1 := set_nextS (cuts s k) m (cutAt s k)
        rw [cuts_len] at e1
        rw [e1, ← cuts_succ] at hst
        have HST := hide hst
        have hsz : (s.size : Int) = 256 := by omega
        clear hcl e1 hst hO hm
        go_wp2
        go_roundw
        case rel => exact ⟨k + 1, by omega, by go_num, by rw [Hm.out]; exact HST.out.1, hK.trans (Kp.ofGrown HST.out.2 (S := only g) (fun k he _ => by cases he; rfl)) (fun _ _ h => h) (fun k hk he => absurd hk (by have := HG.out; unfold only at he; omega))⟩
        case measure => simp [intOf]; omega
      · obtain rfl : k = 4 := by omega
        go_wp2
        go_ret2
        refine ⟨_, rfl, ?_, hK⟩
        have : cuts s 4 ++ List.replicate (4 - 4) ByteArray.empty = cuts s 4 := by simp
        rw [this] at hO
        exact hO.mono (by have := HG.out; omega)
  · have hE : cutE s = 1 := by simp [cutE, h]
    have hL : cutL s = [] := by simp [cutL, h]
    rw [hE, hL]
    have hne : ((s.size : Int) != 256) = true := by simp; omega
    clear hE hL h
    go_enter Tryz.func133, Tryz.ntmps133
    go_wp2
    go_ret2
    exact ⟨_, rfl, Ow.nil _ _ _ _, Kp.refl _ _⟩

end Go.Proofs.YtmnedhlgplkfhaaGreat

namespace Go.Proofs.YtmnedhlgplkfhaaGreat
open Go.RowKit
set_option linter.unusedVariables false

/-- Are they a page's sectors; their bytes; what Join answers. -/
def okJ (l : List ByteArray) : Bool := decide (l.length = 4 ∧ ∀ s ∈ l, s.size = 64)
def catB (l : List ByteArray) : List UInt8 := l.flatMap fun s => s.data.toList
def joinS (l : List ByteArray) : ByteArray := ⟨(if okJ l then catB l else []).toArray⟩
def joinE (l : List ByteArray) : Int := if okJ l then 0 else 1
theorem catB_len : ∀ (l : List ByteArray), (∀ s ∈ l, s.size = 64) → (catB l).length = 64 * l.length
  | [], _ => rfl
  | s :: l, h => by
    have h1 := catB_len l (fun x hx => h x (by simp [hx]))
    have h2 := h s (by simp)
    have e : (catB (s :: l)).length = s.data.toList.length + (catB l).length := by simp [catB]
    have e2 : s.data.toList.length = s.size := by rw [Array.length_toList]; rfl
    rw [e, h1, e2, h2, List.length_cons]
    omega
theorem catB_take (l : List ByteArray) (k : Nat) (h : k < l.length) : catB (l.take (k + 1)) = catB (l.take k) ++ l[k].data.toList := by
  unfold catB
  rw [List.take_succ_eq_append_getElem h, List.flatMap_append, List.flatMap_cons, List.flatMap_nil, List.append_nil]
theorem cat_str (a : List UInt8) (s : ByteArray) : (⟨a.toArray⟩ : ByteArray) ++ s = ⟨(a ++ s.data.toList).toArray⟩ := by
  apply ByteArray.ext
  rw [ByteArray.data_append]
  apply Array.ext'
  simp
theorem okJ_bad {l : List ByteArray} {k : Nat} (hk : k < l.length) (h : l[k].size ≠ 64) : okJ l = false := by
  unfold okJ
  rw [decide_eq_false_iff_not]
  rintro ⟨_, h2⟩
  exact h (h2 _ (List.getElem_mem hk))

end Go.Proofs.YtmnedhlgplkfhaaGreat
